import PyProof.Rows.All
import Wide.All
import OpenK.AllK
import Wide.FinOn
import Lean
import PyProof.EqAt
import PyProof.EqKinds
import PyProof.TupleCall
import PyProof.DictItems
import PyProof.Rows.SortStr
import PyProof.Rows.StrInSeq3
import PySem.Challenge.RW_codemill_k41_whole_nothing_to_fold
local macro_rules | `(tactic| trivial) => `(tactic| (dsimp only; decide +kernel))
local macro_rules | `(tactic| trivial) => `(tactic| decide +kernel)
abbrev ka:=@Bool.false_ne_true
abbrev kb:=@Option.bind_some
abbrev kc:=@Nat.le_refl
abbrev kd:=@List.getElem?_eq_some_iff
abbrev ke:=@decide_eq_false
abbrev kf:=@decide_eq_true
abbrev kg:=@List.length_map
abbrev kh:=@List.length_append
abbrev ki:=@PySem.W.mg_of
abbrev kj:=@List.mem_singleton
abbrev kl:=@List.not_mem_nil
abbrev km:=@Nat.le_trans
abbrev kn:=PySem.W.Frag
abbrev ko:=@if_neg
abbrev kq:=@if_pos
abbrev kr:=@Option.some.inj
abbrev ku:=@of_decide_eq_true
abbrev kw:=@List.mem_cons
abbrev kx:=@List.size_toArray
abbrev ky:=@List.length_singleton
abbrev kz:=@List.mem_of_getElem?
abbrev kC:=@List.dropLast_concat
abbrev kE:=@List.map_append
abbrev kF:=@List.getElem?_eq_getElem
abbrev kG:=@Nat.lt_of_lt_of_le
abbrev kH:=@List.mem_append_right
abbrev kI:=@List.mem_append_left
abbrev kJ:=@List.length_cons
abbrev kK:=@List.mem_cons_self
abbrev kL:=@List.mem_cons_of_mem
abbrev kM:=@List.mem_append
abbrev kN:=@List.map_cons
abbrev kO:=@List.append_nil
abbrev kP:=@List.append_assoc
abbrev kQ:=@Nat.le_of_eq
abbrev kR:=@Int.eq_ofNat_of_zero_le
abbrev kS:=@Int.toNat_natCast
abbrev kX:=@Bool.and_eq_true
abbrev kY:=@decide_eq_true_eq
abbrev ya:=@List.getElem?_append_left
abbrev yb:=@List.getElem?_append_right
set_option genInjectivity true
set_option genSizeOf false
set_option Elab.async false
set_option linter.all false
set_option maxRecDepth 100000
theorem aR (h:True=True:=by rfl) (k:(0:Nat)=0:=by decide):True:=trivial
namespace L2
open PySem PySem.Spec PyProof.Rows
abbrev Key:=Sum Int Str
noncomputable def z1u:Key→Value→Bool
 | .inl k,v=>Value.isInt k v
 | .inr x,v=>Value.isStrOf x v
noncomputable def keyH (w:World):Key→Int
 | .inl k=>hashInt k
 | .inr x=>hashStr w x
theorem qp:∀{k:Key} {v:Value},z1u k v=true→(∃i t,k=Sum.inl i∧v=Value.int i t)∨(∃x t,k=Sum.inr x∧v=Value.str x t)
 | .inl i,v,h=>by
  obtain ⟨t,e⟩:=Value.isInt_shape (k:=i) (v:=v) h
  exact .inl ⟨i,t,rfl,e⟩
 | .inr x,v,h=>by
  obtain ⟨t,e⟩:=Value.isStrOf_shape (x:=x) (v:=v) h
  exact .inr ⟨x,t,rfl,e⟩
theorem z4h (i:Int) (t:Tok):z1u (.inl i) (.int i t)=true:=by simp [z1u,Value.isInt]
theorem z4f (x:Str) (t:Tok):z1u (.inr x) (.str x t)=true:=by simp [z1u,Value.isStrOf]
theorem z8E (a b:Int):decide ((Sum.inl a:Key)=Sum.inl b)=(a == b):=by
 by_cases e:a=b
 ·subst e;simp
 ·have h:¬(Sum.inl a:Key)=Sum.inl b:=fun q=>e (Sum.inl.inj q)
  rw [ke h]
  exact (beq_eq_false_iff_ne.mpr e).symm
theorem z8B (a b:Str):decide ((Sum.inr a:Key)=Sum.inr b)=decide (a=b):=by
 by_cases e:a=b
 ·subst e;simp
 ·have h:¬(Sum.inr a:Key)=Sum.inr b:=fun q=>e (Sum.inr.inj q)
  rw [ke h,ke e]
theorem z8D (a:Int) (b:Str):decide ((Sum.inl a:Key)=Sum.inr b)=false:=ke (fun q=>nomatch q)
theorem z8C (a:Str) (b:Int):decide ((Sum.inr a:Key)=Sum.inl b)=false:=ke (fun q=>nomatch q)
noncomputable def qj (prog:Program) (w:World):PySem.KeyKind prog w Key where
 is:=z1u
 hash:=keyH w
 inj:=fun v a b ha hb=>by
  rcases qp ha with ⟨i,t,rfl,rfl⟩ | ⟨x,t,rfl,rfl⟩
  ·rcases qp hb with ⟨j,u,rfl,e⟩ | ⟨y,u,rfl,e⟩
   ·injection e with e1 _;rw [e1]
   ·exact nomatch e
  ·rcases qp hb with ⟨j,u,rfl,e⟩ | ⟨y,u,rfl,e⟩
   ·exact nomatch e
   ·injection e with e1 _;rw [e1]
 byValue:=fun k v h=>by
  rcases qp h with ⟨i,t,rfl,rfl⟩ | ⟨x,t,rfl,rfl⟩ <;> rfl
 pyHash:=fun hv h=>by
  rcases qp hv with ⟨i,t,rfl,rfl⟩ | ⟨x,t,rfl,rfl⟩
  ·exact wpAny_pyHash_int h
  ·exact wpAny_pyHash_str h
 eqBool:=fun hu hv h=>by
  rcases qp hu with ⟨i,t,rfl,rfl⟩ | ⟨x,t,rfl,rfl⟩
  ·rcases qp hv with ⟨j,u,rfl,rfl⟩ | ⟨y,u,rfl,rfl⟩
   ·rw [z8E] at h;exact wpAny_eqBool_int h
   ·rw [z8D] at h;exact SeqAt.EqAt.int_str i t y u _ _ _ _ h
  ·rcases qp hv with ⟨j,u,rfl,rfl⟩ | ⟨y,u,rfl,rfl⟩
   ·rw [z8C] at h;exact SeqAt.EqAt.str_int x t j u _ _ _ _ h
   ·rw [z8B] at h;exact wpAny_eqBool_str h
 «strs»:=fun k x t v h=>by
  rcases qp h with ⟨i,u,rfl,e⟩ | ⟨y,u,rfl,e⟩
  ·exact nomatch e
  ·injection e with e1 _
   subst e1
   cases v <;> rfl
theorem z1s (prog:Program) (w:World) (i:Int) (t:Tok):(qj prog w).is (.inl i) (.int i t)=true:=z4h i t
theorem z1r (prog:Program) (w:World) (x:Str) (t:Tok):(qj prog w).is (.inr x) (.str x t)=true:=z4f x t
end L2
namespace L2
open PySem PySem.Spec PyProof.Rows
inductive V where
 | non | bl (b:Bool) | int (i:Int) | str (x:Str) | byt (b:Array UInt8) | flt (b:UInt64) | ref (a:Addr) | ty (n:String)
 deriving DecidableEq
def RelV:V→Value→Prop
 | .non,u=>u=Value.none
 | .bl b,u=>u=Value.bool b
 | .int i,u=>∃t,u=Value.int i t
 | .str x,u=>∃t,u=Value.str x t
 | .byt b,u=>∃t,u=Value.bytes b t
 | .flt b,u=>∃t,u=Value.float b t
 | .ref a,u=>u=Value.ref a
 | .ty n,u=>u=Value.type n
abbrev Vals:List V→List Value→Prop:=Paired RelV
theorem Vals.length {xs:List V} {us:List Value} (r:Vals xs us):xs.length=us.length:=Paired.length r
theorem Vals.get:∀{xs:List V} {us:List Value} {i:Nat} {x:V},Vals xs us→xs[i]?=some x→∃u,us[i]?=some u∧RelV x u
 | _,_,_,_,.nil,e=>by simp at e
 | _,_,0,_,.cons r _,e=>by simp at e;subst e;exact ⟨_,rfl,r⟩
 | _,_,i+1,x,.cons _ t,e=>by
  obtain ⟨u,h1,h2⟩:=Vals.get (i:=i) (x:=x) t (by simpa using e)
  exact ⟨u,by simpa using h1,h2⟩
theorem Vals.set {x:V} {u:Value} (r:RelV x u):∀{xs:List V} {us:List Value} (i:Nat),Vals xs us→Vals (xs.set i x) (us.set i u)
 | _,_,_,.nil=>.nil
 | _,_,0,.cons _ t=>.cons r t
 | _,_,i+1,.cons q t=>.cons q (Vals.set r i t)
theorem Vals.append:∀{xs ys:List V} {us ws:List Value},Vals xs us→Vals ys ws→Vals (xs++ys) (us++ws)
 | _,_,_,_,.nil,s=>s
 | _,_,_,_,.cons r t,s=>.cons r (Vals.append t s)
theorem Vals.take:∀{xs:List V} {us:List Value} (n:Nat),Vals xs us→Vals (xs.take n) (us.take n)
 | _,_,0,_=>.nil
 | _,_,_+1,.nil=>.nil
 | _,_,n+1,.cons r t=>.cons r (Vals.take n t)
theorem Vals.drop:∀{xs:List V} {us:List Value} (n:Nat),Vals xs us→Vals (xs.drop n) (us.drop n)
 | _,_,0,r=>r
 | _,_,_+1,.nil=>.nil
 | _,_,n+1,.cons _ t=>Vals.drop n t
def RelO:Option V→Option Value→Prop
 | some v,some u=>RelV v u
 | none,none=>True
 | _,_=>False
def KV {κ:Type}:List (κ × V)→List (κ × Value)→Prop:=Paired fun (p:κ × V) (q:κ × Value)=>p.1=q.1∧RelV p.2 q.2
noncomputable def kV:Key→V
 | .inl i=>.int i
 | .inr x=>.str x
inductive HO where
 | lst (xs:List V)
 | tup (xs:List V)
 | dK (kvs:List (Key × V)) | dT (kvs:List (List Key × V))
 | set (S:Int→Bool) (n:Nat)
 | ins (C dx:Addr) (fs:List (Str × V))
 | own (x:Addr)
 | xd (fs:List (Str × V))
 | met (f x:Addr)
 | rng (lo hi:Int)
 | frz (o:Obj) (u:HO)
 | tbl (ps:Array Value)
 | ext (φ:Heap→Prop)
abbrev Hp:=Addr→Option HO
noncomputable def upd (H:Hp) (a:Addr) (o:HO):Hp:=fun b=>if b=a then some o else H b
theorem zb {H:Hp} {a:Addr} {o:HO}:upd H a o a=some o:=by unfold upd;rw [kq rfl]
theorem zl {H:Hp} {a b:Addr} {o:HO} (h:b≠a):upd H a o b=H b:=by unfold upd;rw [ko h]
theorem z6O {H:Hp} {a:Addr} {o u:HO}:upd (upd H a o) a u=upd H a u:=by
 funext b;unfold upd;split <;> rfl
theorem jU {H:Hp} {a b:Addr} {o u:HO} (h:H a=some o) (h':H b=some u) (d:o≠u):a≠b:=by
 intro e;subst e;rw [h] at h';exact d (kr h')
theorem zh {H:Hp} {a b:Addr} {o:HO} (h:H a=some o) (h':H b=none):a≠b:=by
 intro e;subst e;rw [h] at h';cases h'
section
variable (P:Program) (w:World)
def qF (H:Hp) (h:Heap) (a:Addr):HO→Prop
 | .lst xs=>xs.length≤sizeLine∧∃(its:List Value) (n:Nat),Vals xs its∧h.get? a=some { cls:=.type "list",data:=.seq its.toArray n }
 | .tup xs=>xs.length≤sizeLine∧∃its:List Value,Vals xs its∧IsTup h a its.toArray
 | .dK kvs=>kvs.length≤sizeLine∧(a == sysModules)=false∧∃vs,KV kvs vs∧h.DictOf (qj P w) a vs
 | .dT kvs=>kvs.length≤sizeLine∧(a == sysModules)=false∧∃xs:List (List Key × Addr × Value),
   Paired (fun (p:List Key × V) (q:List Key × Addr × Value)=>p.1=q.1∧H q.2.1=some (.tup (p.1.map kV))∧RelV p.2 q.2.2) kvs xs∧
   ∃o es ep,h.get? a=some o∧o.ExactDict∧o.data=.dict es ep∧es.toList=xs.map (entryOfKey (tupleKind (qj P w)))∧(xs.map (·.1)).Nodup
 | .set S n=>h.SetOf (intKind P w) a S n
 | .ins C dx fs=>H dx=some (.own a)∧fs.length≤1000∧dx≠a∧h.get? a=some (PySem.W.instObj C dx)∧
   ∃mA,h.Ns1 dx mA∧(∀f,RelO (fs.lookup f) (mA f))∧PySem.Within mA (fs.map (·.1))
 | .own _=>∃o,h.get? a=some o
 | .xd fs=>∃mA,h.Ns1 a mA∧∀f,RelO (fs.lookup f) (mA f)
 | .rng lo hi=>∃t u v,h.get? a=some { cls:=.type "range",data:=.fields #[.int lo t,.int hi u,.int 1 v] }
 | .frz o u=>h.get? a=some o∧qF H h a u
 | .tbl ps=>h.get? a=some { cls:=.none,data:=.fields ps }
 | .met f x=>h.get? a=some (PySem.W.methodObj (.ref f) (.ref x))
 | .ext φ=>φ h∧(∃o,h.get? a=some o)∧∀h1 h2:Heap,φ h1→(∀o,h1.get? a=some o→h2.get? a=some o)→φ h2
def HOk (H:Hp) (h:Heap):Prop:=∀a o,H a=some o→qF P w H h a o
end
section
variable {P:Program} {w:World} {H H':Hp} {h h':Heap} {a:Addr} {o:HO}
theorem qF.lt (x:qF P w H h a o):a < h.objs.size:=by
 cases o with
 | lst xs=>obtain ⟨_,_,_,_,e⟩:=x;exact Heap.lt_size e
 | tup xs=>obtain ⟨_,_,_,p⟩:=x;exact p.lt
 | dK kvs=>obtain ⟨_,_,_,_,o,_,_,e,_⟩:=x;exact Heap.lt_size e
 | dT kvs=>obtain ⟨_,_,_,_,o,_,_,e,_⟩:=x;exact Heap.lt_size e
 | set S n=>obtain ⟨o,_,_,_,e,_⟩:=x;exact Heap.lt_size e
 | ins C dx fs=>obtain ⟨_,_,_,e,_⟩:=x;exact Heap.lt_size e
 | own y=>obtain ⟨_,e⟩:=x;exact Heap.lt_size e
 | xd fs=>obtain ⟨_,⟨_,_,_,e,_⟩,_⟩:=x;exact Heap.lt_size e
 | rng lo hi=>obtain ⟨_,_,_,e⟩:=x;exact Heap.lt_size e
 | frz ob u=>obtain ⟨e,_⟩:=x;exact Heap.lt_size e
 | tbl ps=>exact Heap.lt_size (show h.get? a=some _ from x)
 | met f y=>exact Heap.lt_size (show h.get? a=some _ from x)
 | ext φ=>obtain ⟨_,⟨_,e⟩,_⟩:=x;exact Heap.lt_size e
theorem Paired.mapP {α β:Type} {F G:α→β→Prop}:∀{l₁:List α} {l₂:List β},Paired F l₁ l₂→(∀a b,F a b→G a b)→Paired G l₁ l₂
 | _,_,.nil,_=>.nil
 | _,_,.cons r t,f=>.cons (f _ _ r) (Paired.mapP t f)
theorem qF.stay (x:qF P w H h a o) (k:∀b u,(b=a∨H b=some (.own a))→h.get? b=some u→h'.get? b=some u)
  (ho:∀b,H b=some (.own a)→H' b=some (.own a)) (ht:∀b xs,H b=some (.tup xs)→H' b=some (.tup xs)):qF P w H' h' a o:=by
 induction o with
 | lst xs=>obtain ⟨z,its,n,r,e⟩:=x;exact ⟨z,its,n,r,k _ _ (.inl rfl) e⟩
 | tup xs=>obtain ⟨z,its,r,ob,e,c⟩:=x;exact ⟨z,its,r,ob,k _ _ (.inl rfl) e,c⟩
 | dK kvs=>obtain ⟨z,y,vs,r,ob,es,ep,e,c⟩:=x;exact ⟨z,y,vs,r,ob,es,ep,k _ _ (.inl rfl) e,c⟩
 | dT kvs=>
  obtain ⟨z,y,xs,r,ob,es,ep,e,c⟩:=x
  exact ⟨z,y,xs,Paired.mapP r fun p q z=>⟨z.1,ht _ _ z.2.1,z.2.2⟩,ob,es,ep,k _ _ (.inl rfl) e,c⟩
 | set S n=>obtain ⟨ob,es,ep,t,e,c⟩:=x;exact ⟨ob,es,ep,t,k _ _ (.inl rfl) e,c⟩
 | ins C dx fs=>
  obtain ⟨d,z,ne,e,mA,⟨od,es,ep,e2,c⟩,r⟩:=x
  exact ⟨ho _ d,z,ne,k _ _ (.inl rfl) e,mA,⟨od,es,ep,k _ _ (.inr d) e2,c⟩,r⟩
 | own y=>obtain ⟨ob,e⟩:=x;exact ⟨ob,k _ _ (.inl rfl) e⟩
 | xd fs=>obtain ⟨mA,⟨od,es,ep,e,c⟩,r⟩:=x;exact ⟨mA,⟨od,es,ep,k _ _ (.inl rfl) e,c⟩,r⟩
 | rng lo hi=>obtain ⟨t,u,v,e⟩:=x;exact ⟨t,u,v,k _ _ (.inl rfl) e⟩
 | frz ob u ih=>obtain ⟨e,q⟩:=x;exact ⟨k _ _ (.inl rfl) e,ih q⟩
 | tbl ps=>
  have e:h.get? a=some { cls:=.none,data:=.fields ps }:=x
  show h'.get? a=some { cls:=.none,data:=.fields ps }
  exact k a _ (.inl rfl) e
 | met f y=>
  have e:h.get? a=some (PySem.W.methodObj (.ref f) (.ref y)):=x
  show h'.get? a=some (PySem.W.methodObj (.ref f) (.ref y))
  exact k a _ (.inl rfl) e
 | ext φ=>obtain ⟨p,⟨o,e⟩,st⟩:=x;exact ⟨st _ _ p fun o q=>k _ _ (.inl rfl) q,⟨o,k _ _ (.inl rfl) e⟩,st⟩
theorem HOk.lt (x:HOk P w H h) (e:H a=some o):a < h.objs.size:=(x a o e).lt
theorem HOk.fresh (x:HOk P w H h) (e:h.objs.size≤a):H a=none:=by
 cases q:H a with
 | none=>rfl
 | some u=>exact absurd (kG (x.lt q) e) (Nat.lt_irrefl _)
theorem HOk.kept (x:HOk P w H h) (k:∀b u,h.get? b=some u→h'.get? b=some u):HOk P w H h':=fun a o e=>
 (x a o e).stay (fun b u _ q=>k b u q) (fun _ q=>q) fun _ _ q=>q
theorem HOk.laid (x:HOk P w H h) (k:∀b u,h.get? b=some u→h'.get? b=some u) (hp:h.objs.size≤a) (new:qF P w (upd H a o) h' a o):HOk P w (upd H a o) h':=fun b u e=>by
 have hn:=x.fresh hp
 by_cases hb:b=a
 ·subst hb;rw [zb] at e;cases e;exact new
 ·rw [zl hb] at e
  exact (x b u e).stay (fun c v _ q=>k c v q) (fun c q=>by rw [zl (zh q hn)];exact q) fun c xs q=>by rw [zl (zh q hn)];exact q
end
def Rd (H:Hp) (a:Addr) (u:HO):Prop:=H a=some u∨∃o,H a=some (.frz o u)
theorem Rd.ok {P:Program} {w:World} {H:Hp} {h:Heap} {a:Addr} {u:HO} (r:Rd H a u) (x:HOk P w H h):qF P w H h a u:=by
 rcases r with r | ⟨o,r⟩
 ·exact x a u r
 ·obtain ⟨_,q⟩:=x a _ r
  exact q
def Mut:Option HO→Prop
 | some (.lst _)=>True
 | some (.dK _)=>True
 | some (.dT _)=>True
 | some (.set _ _)=>True
 | some (.ins _ _ _)=>True
 | some (.ext _)=>True
 | _=>False
section
variable {P:Program} {w:World} {H:Hp} {h h':Heap} {x e:Addr} {o':HO}
theorem HOk.write (ok:HOk P w H h) (mu:Mut (H x)) (he:e=x∨H e=some (.own x)) (k:∀b u,b≠e→h.get? b=some u→h'.get? b=some u) (heo:∃u,h'.get? e=some u)
  (new:qF P w (upd H x o') h' x o'):HOk P w (upd H x o') h':=fun b u q=>by
 have nown:∀c y,H c=some (.own y)→c≠x:=fun c y r z=>by subst z;rw [r] at mu;exact mu
 have ntup:∀c xs,H c=some (.tup xs)→c≠x:=fun c xs r z=>by subst z;rw [r] at mu;exact mu
 by_cases hb:b=x
 ·subst hb;rw [zb] at q;cases q;exact new
 ·rw [zl hb] at q
  by_cases hbe:b=e
  ·have q':H b=some (.own x):=by
    rcases he with z | z
    ·exact absurd (hbe.trans z) hb
    ·rw [hbe];exact z
   rw [q] at q';cases q'
   obtain ⟨v,hv⟩:=heo
   exact ⟨v,by rw [hbe];exact hv⟩
  ·refine (ok b u q).stay (fun c v hc r=>k c v ?_ r) (fun c r=>by rw [zl (nown c b r)];exact r) fun c xs r=>by rw [zl (ntup c xs r)];exact r
   rcases hc with rfl | hc
   ·exact hbe
   ·rintro rfl
    rcases he with z | z
    ·exact nown c b hc z
    ·rw [hc] at z;cases z;exact hb rfl
end
structure Un (fs ex:List Addr) (H H':Hp) (h h':Heap):Prop where
 keep:∀b o,h.get? b=some o→H b=none→b∉fs→b∉ex→h'.get? b=some o
 slot:∀b o,h.get? b=some o→H b=none→b∈fs→b∉ex→∃sl,h'.get? b=some { o with slots:=sl }
 free:∀b o,h.get? b=some o→H b=none→b∉ex→H' b=none
 there:∀b o,h.get? b=some o→b∉ex→∃o',h'.get? b=some o'
 tups:∀b xs,H b=some (.tup xs)→H' b=some (.tup xs)
 frzs:∀b o u,H b=some (.frz o u)→H' b=some (.frz o u)
 tbls:∀b ps,H b=some (.tbl ps)→∃more,H' b=some (.tbl (ps++more))
section
variable {fs fs' ex ex':List Addr} {H H1 H2:Hp} {h h1 h2 h':Heap} {a x e:Addr} {o:HO}
theorem Un.any (u:Un fs ex H H1 h h1) {b:Addr} {ob:Obj} (q:h.get? b=some ob) (n:H b=none) (hx:b∉ex):∃sl,h1.get? b=some { ob with slots:=sl }:=by
 by_cases hb:b∈fs
 ·exact u.slot b ob q n hb hx
 ·exact ⟨ob.slots,u.keep b ob q n hb hx⟩
theorem Un.kept (k:∀b u,h.get? b=some u→h'.get? b=some u):Un fs ex H H h h':=
 ⟨fun b ob q _ _ _=>k b ob q,fun b ob q _ _ _=>⟨ob.slots,k b ob q⟩,fun _ _ _ n _=>n,fun b ob q _=>⟨ob,k b ob q⟩,fun _ _ q=>q,fun _ _ _ q=>q,fun _ ps q=>⟨#[],by rw [q];simp⟩⟩
theorem Un.refl:Un fs ex H H h h:=Un.kept fun _ _ q=>q
theorem Un.laid (k:∀b u,h.get? b=some u→h'.get? b=some u) (hp:h.objs.size≤a) (hn:H a=none):Un fs ex H (upd H a o) h h' where
 keep:=fun b u q _ _ _=>k b u q
 slot:=fun b u q _ _ _=>⟨u.slots,k b u q⟩
 free:=fun b u q n _=>by rw [zl (Nat.ne_of_lt (kG (Heap.lt_size q) hp))];exact n
 there:=fun b u q _=>⟨u,k b u q⟩
 tups:=fun b xs q=>by rw [zl (zh q hn)];exact q
 frzs:=fun b u xs q=>by rw [zl (zh q hn)];exact q
 tbls:=fun b ps q=>⟨#[],by rw [zl (zh q hn),q];simp⟩
theorem Un.write (mu:Mut (H x)) (he:e=x∨H e=some (.own x)) (k:∀b u,b≠e→h.get? b=some u→h'.get? b=some u) (heo:∃u,h'.get? e=some u):Un fs ex H (upd H x o) h h':=by
 have hx:∀b,H b=none→b≠x:=fun b n z=>by subst z;rw [n] at mu;exact mu
 have hb:∀b,H b=none→b≠e:=fun b n z=>by
  subst z
  rcases he with r | r
  ·exact hx b n r
  ·rw [n] at r;cases r
 have hm:∀b u,H b=some u→¬Mut (some u)→b≠x:=fun b u q nm z=>by subst z;rw [q] at mu;exact nm mu
 refine ⟨fun b u q n _ _=>k b u (hb b n) q,fun b u q n _ _=>⟨u.slots,k b u (hb b n) q⟩,fun b u q n _=>by rw [zl (hx b n)];exact n,fun b u q _=>?_,
  fun b xs q=>by rw [zl (hm b _ q fun z=>z)];exact q,fun b u xs q=>by rw [zl (hm b _ q fun z=>z)];exact q,fun b ps q=>⟨#[],by rw [zl (hm b _ q fun z=>z),q];simp⟩⟩
 by_cases hbe:b=e
 ·subst hbe;exact heo
 ·exact ⟨u,k b u hbe q⟩
end
noncomputable def trk (h:Heap) (H:Hp):List Addr:=(List.range h.objs.size).filter fun a=>(H a).isSome
noncomputable def hidT (h:Heap) (H:Hp):Heap:=PySem.W.hideAll h (trk h H)
theorem z4n (h:Heap) (H:Hp):(hidT h H).objs.size=h.objs.size:=PySem.W.hideAll_size _ _
theorem z5G {h:Heap} {H:Hp} {b:Addr} {o:Obj} (e:h.get? b=some o) (n:H b=none):(hidT h H).get? b=some o:=
 PySem.W.hideAll_get _ e fun hm=>by
  have q:(H b).isSome=true:=(List.mem_filter.mp hm).2
  rw [n] at q;simp at q
theorem z7a {h:Heap} {H:Hp} {b:Addr} {o:Obj} (e:(hidT h H).get? b=some o):h.get? b=some o∧H b=none:=by
 have e':h.get? b=some o:=PySem.W.of_hideAll (trk h H) e
 refine ⟨e',?_⟩
 cases q:H b with
 | none=>rfl
 | some x=>
  have hm:b∈trk h H:=List.mem_filter.mpr ⟨List.mem_range.mpr (Heap.lt_size e'),by simp [q]⟩
  have z:(hidT h H).get? b=none:=PySem.W.hideAll_none (trk h H) hm
  rw [z] at e;cases e
end L2
namespace L2
open PySem PySem.Spec PyProof.Rows
structure Mod (K:kn) (mg:Str→Option Value) (base:Heap):Prop where
 kin:K.In base
 glob:base.Ns mainGlobals mg
 blt:∃mb,base.Ns builtinsNs mb∧∀x:Str,x≠"__name__"→mb x=bootBuiltins x
 nolimit:base.NoLimit
structure Cx where
 prog:Program
 w:World
 K:kn
 mg:Str→Option Value
 base:Heap
 A:Around
 N:List Str
 s₀:Shared
 H₀:Hp
 env:Env
 outer:List Env
 stack:List Env
 ex:List Addr
 fn:Str→Bool
 calm:Bool
 pn:List (Addr × Obj)
 xe:Value→Shared→Prop
noncomputable def frs (l:List Env):List Addr:=l.filterMap (·.frame)
noncomputable abbrev Cx.fs (X:Cx):List Addr:=frs X.outer
def Vis (sc:Scope) (x:Str):Prop:=sc.names.lookup x=some .local∨sc.names.lookup x=some .cell∨sc.names.lookup x=some .free
def Loc (sc:Scope) (x:Str):Prop:=sc.names.lookup x=some .local∨sc.names.lookup x=some .cell
def Look (env:Env) (h:Heap) (m:Str→Option Value) (x:Str) (u:Value):Prop:=
 (env.kindOf x=some .local∧m x=some u)∨((env.kindOf x=some .cell∨env.kindOf x=some .free)∧∃c,env.cells.lookup x=some c∧h.IsCell c (some u))
structure Cx.Ok (X:Cx):Prop where
 mod:Mod X.K X.mg X.base
 kind:X.env.scope.kind=.function
 glob:X.env.globals=mainGlobals
 blt:X.env.builtins=builtinsNs
 above:X.s₀.heap.objs.size≤X.env.locals
 inj:∀x y c,X.env.cells.lookup x=some c→X.env.cells.lookup y=some c→x=y
 has:∀x,(X.env.kindOf x=some .cell∨X.env.kindOf x=some .free)→∃c,X.env.cells.lookup x=some c
 cab:∀x c,X.fn x=true→X.env.cells.lookup x=some c→X.s₀.heap.objs.size≤c
 hd:X.calm=true→X.A.handled=none
 frames:X.A.frames=some X.stack
 stk:X.stack=X.outer∨(X.stack=X.env :: X.outer∧X.env.frame=some X.env.locals)
 exf:∀b∈X.ex,b≠X.env.locals∧∀x c,X.env.cells.lookup x=some c→c≠b
 bs:∀b o,X.base.get? b=some o→X.s₀.heap.get? b=some o∧X.H₀ b=none
 bsz:X.base.objs.size≤X.s₀.heap.objs.size
 noex:∀b o,X.base.get? b=some o→b∉X.ex
 exfs:∀b∈X.ex,b∉X.fs
 funs:X.s₀.heap.FunFrames X.base X.outer
 frf:∀b∈X.fs,X.H₀ b=none
structure Inv (X:Cx) (pins:List (Addr × Obj)) (σ:List (Option V)) (H:Hp) (s:Shared):Prop where
 ok:X.Ok
 os:s.os=X.s₀.os
 bare:AllBare s.gens
 base:Un X.fs X.ex X.H₀ H X.s₀.heap s.heap
 loc:∃m,s.heap.Ns X.env.locals m∧∀(i:Nat) (x:Str) (v:V),X.N[i]?=some x→σ[i]?=some (some v)→Vis X.env.scope x→∃u,RelV v u∧Look X.env s.heap m x u
 cell:∀x c,X.env.cells.lookup x=some c→∃v,s.heap.IsCell c v
 free:H X.env.locals=none
 freeC:∀x c,X.env.cells.lookup x=some c→H c=none
 pin:∀p∈X.pn++pins,s.heap.get? p.1=some p.2∧H p.1=none∧p.1≠X.env.locals∧p.1∉X.fs∧∀v,p.2.data≠.cell v
 hok:HOk X.prog X.w H s.heap
 len:σ.length=X.N.length
section
variable {X:Cx} {pins:List (Addr × Obj)} {σ:List (Option V)} {H H':Hp} {s:Shared} {h':Heap}
theorem Cx.Ok.nofr (ok:X.Ok) {b:Addr} {o:Obj} (e:X.base.get? b=some o):b∉X.fs:=fun hb=>by
 have:=(ok.funs.mem hb).1
 rw [e] at this;cases this
theorem Inv.bs (I:Inv X pins σ H s):∀b o,X.base.get? b=some o→s.heap.get? b=some o∧H b=none:=fun b o e=>
 ⟨I.base.keep b o (I.ok.bs b o e).1 (I.ok.bs b o e).2 (I.ok.nofr e) (I.ok.noex b o e),I.base.free b o (I.ok.bs b o e).1 (I.ok.bs b o e).2 (I.ok.noex b o e)⟩
theorem Inv.bk (I:Inv X pins σ H s):∀b o,X.base.get? b=some o→s.heap.get? b=some o:=fun b o e=>(I.bs b o e).1
theorem Inv.mod (I:Inv X pins σ H s):Mod X.K X.mg X.base:=I.ok.mod
theorem Inv.kIn (I:Inv X pins σ H s):X.K.In s.heap:=I.ok.mod.kin.keeps I.bk
theorem Inv.lt (I:Inv X pins σ H s):X.env.locals < s.heap.objs.size:=let ⟨_,hn,_⟩:=I.loc;hn.lt
theorem Inv.sz (I:Inv X pins σ H s):X.s₀.heap.objs.size≤s.heap.objs.size:=km I.ok.above (Nat.le_of_lt I.lt)
theorem Inv.nofs (I:Inv X pins σ H s) {a:Addr} (h:s.heap.objs.size≤a):a∉X.fs:=fun hb=>by
 obtain ⟨_,o,ho,_⟩:=I.ok.funs.mem hb
 exact absurd (kG (Heap.lt_size ho) (km I.sz h)) (Nat.lt_irrefl _)
theorem Inv.cne (I:Inv X pins σ H s):∀x c,X.env.cells.lookup x=some c→c≠X.env.locals:=fun x c e z=>by
 obtain ⟨v,o,ho,hd⟩:=I.cell x c e
 obtain ⟨m,⟨o',es,ep,ho',hd',_⟩,_⟩:=I.loc
 rw [z,ho'] at ho;cases ho;rw [hd'] at hd;cases hd
theorem Inv.funs (I:Inv X pins σ H s):s.heap.FunFrames X.base X.outer:=by
 have all:∀(l:List Env),(∀b∈frs l,b∈X.fs)→X.s₀.heap.FunFrames X.base l→s.heap.FunFrames X.base l:=by
  intro l
  induction l with
  | nil=>intro _ _;trivial
  | cons env r ih=>
   intro hs hl
   obtain ⟨hk,⟨L,o,hf,hn,ho,hd⟩,hr⟩:=hl
   have hL:L∈X.fs:=hs L (by unfold frs;rw [List.filterMap_cons,hf];exact kK)
   obtain ⟨sl,e⟩:=I.base.slot L o ho (I.ok.frf L hL) hL fun z=>I.ok.exfs L z hL
   exact ⟨hk,⟨L,_,hf,hn,e,hd⟩,ih (fun b hb=>hs b (by unfold frs;rw [List.filterMap_cons,hf];exact kL _ hb)) hr⟩
 exact all X.outer (fun _ hb=>hb) I.ok.funs
theorem Inv.stack (I:Inv X pins σ H s):s.heap.FunFrames X.base X.stack:=by
 rcases I.ok.stk with e | ⟨e,hf⟩
 ·rw [e];exact I.funs
 ·rw [e]
  obtain ⟨m,hn,_⟩:=I.loc
  refine .cons (by rw [I.ok.kind];decide) hf hn ?_ I.funs
  exact Heap.get?_none_of_le (km I.ok.bsz I.ok.above)
theorem Inv.stkSub (I:Inv X pins σ H s):∀b∈frs X.stack,b∈X.env.locals :: X.fs:=fun b hb=>by
 rcases I.ok.stk with e | ⟨e,hf⟩
 ·rw [e] at hb;exact kL _ hb
 ·rw [e] at hb
  unfold frs at hb
  rw [List.filterMap_cons,hf] at hb
  exact hb
theorem Inv.stkFree (I:Inv X pins σ H s):∀b∈frs X.stack,H b=none:=fun b hb=>by
 rcases kw.mp (I.stkSub b hb) with e | hb
 ·rw [e];exact I.free
 ·obtain ⟨_,o,ho,_⟩:=I.ok.funs.mem hb
  exact I.base.free b o ho (I.ok.frf b hb) fun z=>I.ok.exfs b z hb
theorem Inv.step {g':Array GenState} {t':Nat} {d':Drawn} {ch:List Addr} (I:Inv X pins σ H s)
  (hch:∀b∈ch,(b∈X.ex∨X.s₀.heap.objs.size≤b)∧b≠X.env.locals∧(∀x c,X.env.cells.lookup x=some c→c≠b)∧∀p∈X.pn++pins,p.1≠b)
  (keep:∀b o,b≠X.env.locals→b∉X.fs→b∉ch→s.heap.get? b=some o→H b=none→h'.get? b=some o)
  (slot:∀b o,b≠X.env.locals→b∈X.fs→b∉ch→s.heap.get? b=some o→H b=none→∃sl,h'.get? b=some { o with slots:=sl }) (free:∀b o,b∉ch→s.heap.get? b=some o→H b=none→H' b=none)
  (there:∀b o,b∉ch→s.heap.get? b=some o→∃o',h'.get? b=some o')
  (tups:∀b xs,H b=some (.tup xs)→H' b=some (.tup xs)) (frzs:∀b o u,H b=some (.frz o u)→H' b=some (.frz o u)) (tbls:∀b ps,H b=some (.tbl ps)→∃more,H' b=some (.tbl (ps++more)))
  (ns:∀m,s.heap.Ns X.env.locals m→h'.Ns X.env.locals m) (hok:HOk X.prog X.w H' h') (hg:AllBare g'):
  Inv X pins σ H' { s with heap:=h',gens:=g',drawn:=d',toks:=t' }:=by
 have neL:∀b o,X.s₀.heap.get? b=some o→b≠X.env.locals:=fun b o e=>Nat.ne_of_lt (kG (Heap.lt_size e) I.ok.above)
 have neC:∀b o,X.s₀.heap.get? b=some o→b∉X.ex→b∉ch:=fun b o e hx hb=>by
  rcases (hch b hb).1 with z | z
  ·exact hx z
  ·exact absurd (kG (Heap.lt_size e) z) (Nat.lt_irrefl _)
 have cellK:∀x c,X.env.cells.lookup x=some c→∀v,s.heap.IsCell c v→h'.IsCell c v:=fun x c e v ⟨o,ho,hd⟩=>by
  have nch:c∉ch:=fun z=>(hch c z).2.2.1 x c e rfl
  by_cases hc:c∈X.fs
  ·obtain ⟨sl,q⟩:=slot c o (I.cne x c e) hc nch ho (I.freeC x c e)
   exact ⟨_,q,hd⟩
  ·exact ⟨o,keep c o (I.cne x c e) hc nch ho (I.freeC x c e),hd⟩
 refine ⟨I.ok,I.os,hg,⟨fun b o e n hb hx=>?_,fun b o e n hb hx=>?_,fun b o e n hx=>?_,fun b o e hx=>?_,fun b xs e=>tups b xs (I.base.tups b xs e),fun b o xs e=>frzs b o xs (I.base.frzs b o xs e),fun b ps e=>?_⟩,?_,fun x c e=>?_,?_,fun x c e=>?_,fun p hp=>?_,hok,I.len⟩
 ·exact keep b o (neL b o e) hb (neC b o e hx) (I.base.keep b o e n hb hx) (I.base.free b o e n hx)
 ·obtain ⟨sl,e1⟩:=I.base.slot b o e n hb hx
  obtain ⟨sl',e2⟩:=slot b _ (neL b o e) hb (neC b o e hx) e1 (I.base.free b o e n hx)
  exact ⟨sl',e2⟩
 ·obtain ⟨o',e1⟩:=I.base.there b o e hx
  exact free b o' (neC b o e hx) e1 (I.base.free b o e n hx)
 ·obtain ⟨o',e1⟩:=I.base.there b o e hx
  exact there b o' (neC b o e hx) e1
 ·obtain ⟨m1,e1⟩:=I.base.tbls b ps e
  obtain ⟨m2,e2⟩:=tbls b _ e1
  exact ⟨m1++m2,by rw [e2,Array.append_assoc]⟩
 ·obtain ⟨m,hn,hl⟩:=I.loc
  refine ⟨m,ns m hn,fun i x v e1 e2 e3=>?_⟩
  obtain ⟨u,r,l⟩:=hl i x v e1 e2 e3
  refine ⟨u,r,?_⟩
  rcases l with l | ⟨k,c,e,z⟩
  ·exact .inl l
  ·exact .inr ⟨k,c,e,cellK x c e _ z⟩
 ·obtain ⟨v,z⟩:=I.cell x c e
  exact ⟨v,cellK x c e v z⟩
 ·obtain ⟨m,⟨o,_,_,ho,_⟩,_⟩:=I.loc
  exact free _ o (fun z=>(hch _ z).2.1 rfl) ho I.free
 ·obtain ⟨v,o,ho,hd⟩:=I.cell x c e
  exact free c o (fun z=>(hch c z).2.2.1 x c e rfl) ho (I.freeC x c e)
 ·obtain ⟨e,n,ne,nf,d⟩:=I.pin p hp
  have nch:p.1∉ch:=fun z=>(hch p.1 z).2.2.2 p hp rfl
  exact ⟨keep p.1 p.2 ne nf nch e n,free p.1 p.2 nch e n,ne,nf,d⟩
theorem Inv.un {t':Nat} (I:Inv X pins σ H s) (u:Un X.fs [] H H' s.heap h') (hok:HOk X.prog X.w H' h'):Inv X pins σ H' { s with heap:=h',toks:=t' }:=by
 obtain ⟨m,⟨o,es,ep,ho,r⟩,_⟩:=id I.loc
 obtain ⟨sl,hL⟩:=u.any ho I.free (by simp)
 exact I.step (g':=s.gens) (d':=s.drawn) (ch:=[]) (fun _ z=>nomatch z) (fun b o _ hb _ e n=>u.keep b o e n hb (by simp)) (fun b o _ hb _ e n=>u.slot b o e n hb (by simp)) (fun b o _ e n=>u.free b o e n (by simp)) (fun b o _ e=>u.there b o e (by simp)) u.tups u.frzs u.tbls (fun m' hm=>by
  obtain ⟨o',es',ep',ho',r'⟩:=hm
  rw [ho] at ho';cases ho'
  exact ⟨_,es',ep',hL,r'⟩) hok I.bare
theorem Inv.call {g':Array GenState} {t':Nat} {d':Drawn} {ch:List Addr} (I:Inv X pins σ H s) (u:Un (frs X.stack) ch H H' s.heap h') (hok:HOk X.prog X.w H' h') (hg:AllBare g')
  (hch:∀b∈ch,(b∈X.ex∨X.s₀.heap.objs.size≤b)∧b≠X.env.locals∧(∀x c,X.env.cells.lookup x=some c→c≠b)∧∀p∈X.pn++pins,p.1≠b):
  Inv X pins σ H' { s with heap:=h',gens:=g',drawn:=d',toks:=t' }:=by
 obtain ⟨m,⟨o,es,ep,ho,r⟩,_⟩:=id I.loc
 obtain ⟨sl,hL⟩:=u.any ho I.free fun z=>(hch _ z).2.1 rfl
 exact I.step (ch:=ch) hch (fun b o hL hb hc e n=>u.keep b o e n (fun z=>(kw.mp (I.stkSub b z)).elim hL hb) hc) (fun b o _ _ hc e n=>u.any e n hc) (fun b o hc e n=>u.free b o e n hc) (fun b o hc e=>u.there b o e hc) u.tups u.frzs u.tbls (fun m' hm=>by
  obtain ⟨o',es',ep',ho',r'⟩:=hm
  rw [ho] at ho';cases ho'
  exact ⟨_,es',ep',hL,r'⟩) hok hg
theorem Inv.turned {t':Nat} {it:Addr} (I:Inv X pins σ H s) (k:∀b o,b≠it→s.heap.get? b=some o→h'.get? b=some o) (hn:H it=none) (hL:it≠X.env.locals)
  (h1:it∈X.ex∨X.s₀.heap.objs.size≤it) (h2:∀x c,X.env.cells.lookup x=some c→c≠it) (h3:∀p∈X.pn++pins,p.1≠it):Inv X pins σ H { s with heap:=h',toks:=t' }:=by
 have nit:∀b u,H b=some u→b≠it:=fun b u e z=>by rw [z,hn] at e;cases e
 refine I.step (g':=s.gens) (d':=s.drawn) (ch:=[it]) (fun b hb=>?_) (fun b o _ _ hc e _=>k b o (fun z=>hc (by simp [z])) e) (fun b o _ _ hc e _=>⟨o.slots,k b o (fun z=>hc (by simp [z])) e⟩) (fun _ _ _ _ n=>n)
  (fun b o hc e=>⟨o,k b o (fun z=>hc (by simp [z])) e⟩) (fun _ _ e=>e) (fun _ _ _ e=>e) (fun b ps e=>⟨#[],by rw [e];simp⟩) (fun m hm=>?_) (fun b u e=>?_) I.bare
 ·have e:b=it:=by simpa using hb
  subst e
  exact ⟨h1,hL,h2,h3⟩
 ·obtain ⟨o,es,ep,ho,r⟩:=hm
  exact ⟨o,es,ep,k _ o (Ne.symm hL) ho,r⟩
 ·refine (I.hok b u e).stay (fun c v hc q=>k c v ?_ q) (fun _ q=>q) fun _ _ q=>q
  rcases hc with z | z
  ·rw [z];exact nit b u e
  ·exact nit c _ z
theorem Inv.tok (I:Inv X pins σ H s) (t:Nat):Inv X pins σ H { s with toks:=t }:=I.un (h':=s.heap) (t':=t) Un.refl I.hok
theorem Inv.kept {t':Nat} (I:Inv X pins σ H s) (k:∀b u,s.heap.get? b=some u→h'.get? b=some u):Inv X pins σ H { s with heap:=h',toks:=t' }:=I.un (Un.kept k) (I.hok.kept k)
theorem Inv.laid {a:Addr} {o:HO} {t':Nat} (I:Inv X pins σ H s) (k:∀b u,s.heap.get? b=some u→h'.get? b=some u) (hp:s.heap.objs.size≤a) (new:qF X.prog X.w (upd H a o) h' a o):
  Inv X pins σ (upd H a o) { s with heap:=h',toks:=t' }:=I.un (Un.laid k hp (I.hok.fresh hp)) (I.hok.laid k hp new)
theorem Inv.write {x e:Addr} {o:HO} {t':Nat} (I:Inv X pins σ H s) (mu:Mut (H x)) (he:e=x∨H e=some (.own x)) (k:∀b u,b≠e→s.heap.get? b=some u→h'.get? b=some u) (heo:∃u,h'.get? e=some u)
  (new:qF X.prog X.w (upd H x o) h' x o):Inv X pins σ (upd H x o) { s with heap:=h',toks:=t' }:=I.un (Un.write mu he k heo) (I.hok.write mu he k heo new)
theorem Inv.pins_of {pins':List (Addr × Obj)} (I:Inv X pins σ H s) (h:∀p∈pins',s.heap.get? p.1=some p.2∧H p.1=none∧p.1≠X.env.locals∧p.1∉X.fs∧∀v,p.2.data≠.cell v):Inv X pins' σ H s:=
 ⟨I.ok,I.os,I.bare,I.base,I.loc,I.cell,I.free,I.freeC,fun p hp=>(kM.mp hp).elim (fun z=>I.pin p (kI _ z)) (h p),I.hok,I.len⟩
theorem z23 {N:List Str} (hN:N.Nodup) {i j:Nat} {x:Str} (a:N[i]?=some x) (b:N[j]?=some x):i=j:=by
 obtain ⟨h1,e1⟩:=kd.mp a
 obtain ⟨h2,e2⟩:=kd.mp b
 exact (List.getElem_inj hN).mp (e1.trans e2.symm)
theorem z08 {M:Model} {A:Around} {E:Value→Shared→Prop} {i:Nat} {x:Str} {v:V} {u:Value} {Q:Unit→Shared→Prop} (I:Inv X pins σ H s) (hN:X.N.Nodup) (hi:X.N[i]?=some x) (hx:Loc X.env.scope x) (r:RelV v u)
  (h:∀s',Inv X pins (σ.set i (some v)) H s'→(∃a,Heap.SameBut a s.heap s'.heap∧(a=X.env.locals∨X.env.cells.lookup x=some a))→Q () s') (hf:X.fn x=true∨X.env.scope.names.lookup x=some .local:=by first | exact .inl rfl | exact .inr rfl | assumption):wpAny M A (storeName X.env x u) Q E s:=by
 obtain ⟨m,hn,hl⟩:=id I.loc
 have hcls:(X.env.scope.kind == .class||(X.env.scope.kind == .module&&X.env.locals != X.env.globals))=false:=by rw [I.ok.kind];rfl
 have hiσ:i < σ.length:=by rw [I.len];exact (kd.mp hi).1
 have cne:=I.cne
 have tracked:∀{a:Addr} {h':Heap},(∃o,s.heap.get? a=some o∧H a=none)→Heap.SameBut a s.heap h'→HOk X.prog X.w H h':=fun {a h'} ha hs b ob e=>by
  obtain ⟨_,_,hfree⟩:=ha
  refine (I.hok b ob e).stay (fun c w' hc q=>(hs.2 c ?_).trans q) (fun _ q=>q) fun _ _ q=>q
  rintro rfl
  rcases hc with rfl | hc
  ·rw [hfree] at e;cases e
  ·rw [hfree] at hc;cases hc
 rcases hx with hk | hk
 ·refine wpAny_storeName_local hk hn (fun h' hn' hs=>?_) hcls
  obtain ⟨oL,_,_,hoL,_⟩:=id hn
  refine h _ ⟨I.ok,I.os,I.bare,⟨fun b o e n hb hx=>?_,fun b o e n hb hx=>?_,I.base.free,fun b o e hx=>?_,I.base.tups,I.base.frzs,I.base.tbls⟩,⟨_,hn',fun j y v' e1 e2 e3=>?_⟩,fun y c e=>?_,I.free,I.freeC,fun p hp=>?_,tracked ⟨oL,hoL,I.free⟩ hs,by simpa using I.len⟩ ⟨_,hs,.inl rfl⟩
  ·exact (hs.2 b (Nat.ne_of_lt (kG (Heap.lt_size e) I.ok.above))).trans (I.base.keep b o e n hb hx)
  ·obtain ⟨sl,e1⟩:=I.base.slot b o e n hb hx
   exact ⟨sl,(hs.2 b (Nat.ne_of_lt (kG (Heap.lt_size e) I.ok.above))).trans e1⟩
  ·obtain ⟨o',e1⟩:=I.base.there b o e hx
   exact ⟨o',(hs.2 b (Nat.ne_of_lt (kG (Heap.lt_size e) I.ok.above))).trans e1⟩
  ·by_cases hj:j=i
   ·subst hj
    rw [hi] at e1;cases e1
    rw [List.getElem?_set_self hiσ] at e2
    cases e2
    exact ⟨u,r,.inl ⟨hk,by simp⟩⟩
   ·rw [List.getElem?_set_ne (Ne.symm hj)] at e2
    obtain ⟨u',r',q⟩:=hl j y v' e1 e2 e3
    refine ⟨u',r',?_⟩
    rcases q with ⟨k,e⟩ | ⟨k,c,e,z⟩
    ·refine .inl ⟨k,?_⟩
     have:y≠x:=fun e=>hj (z23 hN e1 (e▸hi))
     simp [this,e]
    ·exact .inr ⟨k,c,e,z.sameBut hs (cne y c e)⟩
  ·obtain ⟨w',z⟩:=I.cell y c e
   exact ⟨w',z.sameBut hs (cne y c e)⟩
  ·obtain ⟨e,n,ne,nf,d⟩:=I.pin p hp
   exact ⟨(hs.2 p.1 ne).trans e,n,ne,nf,d⟩
 ·have hfn:X.fn x=true:=by
   rcases hf with z | z
   ·exact z
   ·rw [z] at hk;cases hk
  obtain ⟨c,hc⟩:=I.ok.has x (.inl hk)
  obtain ⟨w',z⟩:=I.cell x c hc
  refine wpAny_storeName_cell I.ok.kind hk hc z (fun h' hc' hs=>?_)
  obtain ⟨oc,hoc,hocd⟩:=id z
  refine h { s with heap:=h' } ⟨I.ok,I.os,I.bare,⟨fun b o e n hb hx=>?_,fun b o e n hb hx=>?_,I.base.free,fun b o e hx=>?_,I.base.tups,I.base.frzs,I.base.tbls⟩,⟨m,hn.sameBut hs (Ne.symm (cne x c hc)),fun j y v' e1 e2 e3=>?_⟩,fun y c' e=>?_,I.free,I.freeC,fun p hp=>?_,tracked ⟨oc,hoc,I.freeC x c hc⟩ hs,by simpa using I.len⟩ ⟨c,hs,.inr hc⟩
  ·exact (hs.2 b (Nat.ne_of_lt (kG (Heap.lt_size e) (I.ok.cab x c hfn hc)))).trans (I.base.keep b o e n hb hx)
  ·obtain ⟨sl,e1⟩:=I.base.slot b o e n hb hx
   exact ⟨sl,(hs.2 b (Nat.ne_of_lt (kG (Heap.lt_size e) (I.ok.cab x c hfn hc)))).trans e1⟩
  ·obtain ⟨o',e1⟩:=I.base.there b o e hx
   exact ⟨o',(hs.2 b (Nat.ne_of_lt (kG (Heap.lt_size e) (I.ok.cab x c hfn hc)))).trans e1⟩
  ·by_cases hj:j=i
   ·subst hj
    rw [hi] at e1;cases e1
    rw [List.getElem?_set_self hiσ] at e2
    cases e2
    exact ⟨u,r,.inr ⟨.inl hk,c,hc,hc'⟩⟩
   ·rw [List.getElem?_set_ne (Ne.symm hj)] at e2
    obtain ⟨u',r',q⟩:=hl j y v' e1 e2 e3
    refine ⟨u',r',?_⟩
    rcases q with q | ⟨k,c',e,z'⟩
    ·exact .inl q
    ·refine .inr ⟨k,c',e,z'.sameBut hs ?_⟩
     rintro rfl
     exact hj (z23 hN e1 (I.ok.inj _ _ _ e hc▸hi))
  ·by_cases hcc:c'=c
   ·subst hcc;exact ⟨_,hc'⟩
   ·obtain ⟨w2,z2⟩:=I.cell y c' e
    exact ⟨w2,z2.sameBut hs hcc⟩
  ·obtain ⟨e,n,ne,nf,d⟩:=I.pin p hp
   refine ⟨(hs.2 p.1 ?_).trans e,n,ne,nf,d⟩
   intro q
   rw [q,hoc] at e
   have q':oc=p.2:=kr e
   exact d w' (by rw [←q'];exact hocd)
theorem Zx {M:Model} {A:Around} {E:Value→Shared→Prop} {i:Nat} {x:Str} {v:V} {u:Value} {Q:Unit→Shared→Prop} (I:Inv X pins σ H s) (hN:X.N.Nodup) (hi:X.N[i]?=some x) (hx:Loc X.env.scope x) (r:RelV v u)
  (h:∀s',Inv X pins (σ.set i (some v)) H s'→Q () s') (hf:X.fn x=true∨X.env.scope.names.lookup x=some .local:=by first | exact .inl rfl | exact .inr rfl | assumption):wpAny M A (storeName X.env x u) Q E s:=
 z08 I hN hi hx r (fun s' I' _=>h s' I') hf
theorem Inv.call' {s':Shared} {ch:List Addr} (I:Inv X pins σ H s) (ho:s'.os=s.os) (u:Un (frs X.stack) ch H H' s.heap s'.heap) (hok:HOk X.prog X.w H' s'.heap) (hg:AllBare s'.gens)
  (hch:∀b∈ch,(b∈X.ex∨X.s₀.heap.objs.size≤b)∧b≠X.env.locals∧(∀x c,X.env.cells.lookup x=some c→c≠b)∧∀p∈X.pn++pins,p.1≠b):Inv X pins σ H' s':=by
 obtain ⟨h',g',d',t',o'⟩:=s'
 have e:o'=s.os:=ho
 subst e
 exact I.call (g':=g') (t':=t') (d':=d') u hok hg hch
end
abbrev XK:=Value→Option Addr→Hp→Prop
abbrev St:=List (Option V)
abbrev VK:=V→Hp→Prop
abbrev TE:=St→Hp→VK→Prop
abbrev TT:=St→Hp→(Bool→Hp→Prop)→Prop
abbrev TA:=St→Hp→(List V→Hp→Prop)→Prop
structure Ends where
 nx:St→Hp→Prop
 rt:VK
 bk:St→Hp→Prop:=fun _ _=>False
 ct:St→Hp→Prop:=fun _ _=>False
abbrev TS:=Ends→St→Hp→Prop
def EP (X:Cx) (pins:List (Addr × Obj)) (σ:St) (Q:VK) (u:Value) (s':Shared):Prop:=∃v H',Inv X pins σ H' s'∧RelV v u∧Q v H'
def TP (X:Cx) (pins:List (Addr × Obj)) (σ:St) (Q:Bool→Hp→Prop) (b:Bool) (s':Shared):Prop:=∃H',Inv X pins σ H' s'∧Q b H'
def AP (X:Cx) (pins:List (Addr × Obj)) (σ:St) (Q:List V→Hp→Prop) (us:List Value) (s':Shared):Prop:=∃vs H',Inv X pins σ H' s'∧Vals vs us∧Q vs H'
def SP (X:Cx) (pins:List (Addr × Obj)) (D:Ends) (f:Flow) (s':Shared):Prop:=
 match f with
 | .next=>∃σ' H',Inv X pins σ' H' s'∧D.nx σ' H'
 | .brk=>∃σ' H',Inv X pins σ' H' s'∧D.bk σ' H'
 | .cont=>∃σ' H',Inv X pins σ' H' s'∧D.ct σ' H'
 | .ret u=>∃v σ' H',Inv X pins σ' H' s'∧RelV v u∧D.rt v H'
def PE (X:Cx) (e:Expr) (t:TE):Prop:=
 ∀(pins:List (Addr × Obj)) (s:Shared) (σ:St) (H:Hp) (Q:VK),Inv X pins σ H s→t σ H Q→wpAny (model X.prog X.w) X.A (eval e X.env) (EP X pins σ Q) X.xe s
def PT (X:Cx) (e:Expr) (t:TT):Prop:=
 ∀(pins:List (Addr × Obj)) (s:Shared) (σ:St) (H:Hp) (Q:Bool→Hp→Prop),Inv X pins σ H s→t σ H Q→wpAny (model X.prog X.w) X.A (isTrue e X.env (eval e X.env)) (TP X pins σ Q) X.xe s
def PW (X:Cx) (e:Expr) (t:TT):Prop:=
 ∀(whole:Sem Value) (pins:List (Addr × Obj)) (s:Shared) (σ:St) (H:Hp) (Q:Bool→Hp→Prop),Inv X pins σ H s→t σ H Q→wpAny (model X.prog X.w) X.A (isTrue e X.env whole) (TP X pins σ Q) X.xe s
theorem PW.pt {X:Cx} {e:Expr} {t:TT} (h:PW X e t):PT X e t:=h _
def PA (X:Cx) (es:List Expr) (t:TA):Prop:=
 ∀(pos:Pos) (pins:List (Addr × Obj)) (s:Shared) (σ:St) (H:Hp) (Q:List V→Hp→Prop),Inv X pins σ H s→t σ H Q→wpAny (model X.prog X.w) X.A (spliced (backTo pos (starEach es X.env))) (AP X pins σ Q) X.xe s
def PS (X:Cx) (st:Stmt) (t:TS):Prop:=
 ∀(pins:List (Addr × Obj)) (s:Shared) (σ:St) (H:Hp) (D:Ends),Inv X pins σ H s→t D σ H→wpAny (model X.prog X.w) X.A (exec st X.env) (SP X pins D) X.xe s
def PSs (X:Cx) (st:List Stmt) (t:TS):Prop:=
 ∀(pins:List (Addr × Obj)) (s:Shared) (σ:St) (H:Hp) (D:Ends),Inv X pins σ H s→t D σ H→wpAny (model X.prog X.w) X.A (execs st X.env) (SP X pins D) X.xe s
theorem thn {α:Type} {t:Sem α} {Q Q':α→Shared→Prop} {M:Model} {A:Around} {E:Value→Shared→Prop} {s:Shared} (h:wpAny M A t Q E s) (hQ:∀a s,Q a s→Q' a s):wpAny M A t Q' E s:=wpAny_mono h hQ fun _ _ x=>x
end L2
namespace L2
open PySem PySem.Spec PyProof.Rows
section
variable {X:Cx}
def tVar (i:Nat):TE:=fun σ H Q=>∃v,σ[i]?=some (some v)∧Q v H
abbrev tC (v:V):TE:=fun _ H Q=>Q v H
theorem z8n {i:Nat} {x:Str} {pos:Pos} (hN:X.N[i]?=some x) (hv:Vis X.env.scope x) (hd:autoParam ((x == ("__debug__":Str))=false) aR._auto_2) (hcd:autoParam ((x == ("__classdict__":Str))=false) aR._auto_2):PE X (.Name x pos) (tVar i):=by
 intro pins s σ H Q I h
 obtain ⟨v,e,h⟩:=h
 obtain ⟨m,hn,hl⟩:=I.loc
 obtain ⟨u,r,l⟩:=hl i x v hN e hv
 have fin:EP X pins σ Q u s:=⟨v,H,I,r,h⟩
 rcases l with ⟨hk,hm⟩ | ⟨hk,c,hc,hcell⟩
 ·exact wpAny_Name (wpAny_loadName_local I.ok.kind hk hn hm fin) hd
 ·rcases hk with hk | hk
  ·exact wpAny_Name (wpAny_loadName_cell I.ok.kind hk hc hcell fin) hd
  ·exact wpAny_Name (wpAny_loadName_free I.ok.kind hk hc hcell fin hcd) hd
theorem zc {i j pos}:PE X (.Constant (.int i) j pos) (tC (.int i)):=fun _ _ _ H _ I h=>wpAny_Constant_int ⟨.int i,H,I.tok _,⟨_,rfl⟩,h⟩
theorem Z2 {b j pos}:PE X (.Constant (.bool b) j pos) (tC (.bl b)):=fun _ _ _ H _ I h=>Constant_bool ⟨.bl b,H,I,rfl,h⟩
theorem qc {j pos}:PE X (.Constant .none j pos) (tC .non):=fun _ _ _ H _ I h=>Constant_none ⟨.non,H,I,rfl,h⟩
theorem zf {x j pos}:PE X (.Constant (.str x) j pos) (tC (.str x)):=fun _ _ _ H _ I h=>Calls.Constant_str ⟨.str x,H,I.tok _,⟨_,rfl⟩,h⟩
def Gl (X:Cx) (x:Str):Prop:=X.env.kindOf x=some .globalImplicit
theorem Q4 {E:Value→Shared→Prop} {pins:List (Addr × Obj)} {s:Shared} {σ:St} {H:Hp} {x:Str} {u:Value} {pos:Pos} {Q:Value→Shared→Prop} (I:Inv X pins σ H s) (hg:Gl X x) (hm:X.mg x=some u) (h:Q u s)
  (hd:autoParam ((x == ("__debug__":Str))=false) aR._auto_2):wpAny (model X.prog X.w) X.A (eval (.Name x pos) X.env) Q E s:=
 Calls.Name_function_global I.ok.kind hg (Calls.loadGlobal_global (by rw [I.ok.glob];exact I.mod.glob.keeps I.bk) hm h) hd
theorem z0C {E:Value→Shared→Prop} {pins:List (Addr × Obj)} {s:Shared} {σ:St} {H:Hp} {x:Str} {u:Value} {pos:Pos} {Q:Value→Shared→Prop} (I:Inv X pins σ H s) (hg:Gl X x) (hm:X.mg x=none) (hv:bootBuiltins x=some u) (h:Q u s)
  (hn:autoParam (x≠"__name__") aR._auto_2) (hd:autoParam ((x == ("__debug__":Str))=false) aR._auto_2):wpAny (model X.prog X.w) X.A (eval (.Name x pos) X.env) Q E s:=by
 obtain ⟨mb,h1,h2⟩:=I.mod.blt
 exact Calls.Name_function_global I.ok.kind hg (Calls.loadGlobal_builtin (by rw [I.ok.glob];exact I.mod.glob.keeps I.bk) hm (by rw [I.ok.blt];exact h1.keeps I.bk) ((h2 x hn).trans hv) h) hd
theorem Q1 {x:Str} {v:V} {u:Value} {pos:Pos} (hg:Gl X x) (hm:X.mg x=some u) (r:RelV v u) (hd:autoParam ((x == ("__debug__":Str))=false) aR._auto_2):PE X (.Name x pos) (tC v):=
 fun _ _ _ H _ I h=>Q4 I hg hm ⟨v,H,I,r,h⟩ hd
theorem z75 {x:Str} {v:V} {u:Value} {pos:Pos} (hg:Gl X x) (hm:X.mg x=none) (hv:bootBuiltins x=some u) (r:RelV v u) (hn:autoParam (x≠"__name__") aR._auto_2) (hd:autoParam ((x == ("__debug__":Str))=false) aR._auto_2):PE X (.Name x pos) (tC v):=
 fun _ _ _ H _ I h=>z0C I hg hm hv ⟨v,H,I,r,h⟩ hn hd
variable {a b:Expr} {ta tb:TE} {pos:Pos}
def PC (X:Cx) (op:CmpOp) (a b:Expr) (t:TE):Prop:=
 ∀(pins:List (Addr × Obj)) (s:Shared) (σ:St) (H:Hp) (Q:VK),Inv X pins σ H s→t σ H Q→
  wpAny (model X.prog X.w) X.A (eval a X.env) (fun v s₁=>wpAny (model X.prog X.w) X.A (eval b X.env) (fun u s₂=>wpAny (model X.prog X.w) X.A (compareOp op v u) (EP X pins σ Q) X.xe s₂) X.xe s₁) X.xe s
def tB (t:TE):TT:=fun σ H Q=>t σ H fun x H1=>∃c,x=.bl c∧Q c H1
theorem z6x {op:CmpOp} {t:TE} (h:PC X op a b t) (h1:behindInMarks op b=false:=by first | exact nobehind _ (by decide) (by decide) | rfl):PE X (.Compare a [op] [b] pos) t:=fun pins s σ H Q I hw=>wpAny_Compare1 (h pins s σ H Q I hw) h1
theorem z8l {op:CmpOp} {t:TE} (h:PC X op a b t) (h1:behindInMarks op b=false:=by first | exact nobehind _ (by decide) (by decide) | rfl):PT X (.Compare a [op] [b] pos) (tB t):=by
 intro pins s σ H Q I hw
 refine wpAny_isTrue_Compare1 (thn (h pins s σ H _ I hw) fun v s1 h1=>thn h1 fun u s2 h2=>thn h2 fun c s3 ⟨x,H1,I1,r1,q1⟩=>?_) h1
 obtain ⟨d,rfl,q⟩:=q1
 cases r1
 exact wpAny_truthy_bool ⟨H1,I1,q⟩
theorem qz {e:Expr} {t:TE} (h:PE X e t) (he:∀whole,isTrue e X.env whole=(do let v ←whole;standAt e.pos;holding [v] (truthy v)):=by intro _;rfl):PT X e (tB t):=by
 intro pins s σ H Q I hw
 refine isTrue_plain (thn (h pins s σ H _ I hw) fun v s1 ⟨x,H1,I1,r1,q1⟩=>?_) (he _)
 obtain ⟨d,rfl,q⟩:=q1
 cases r1
 exact wpAny_truthy_bool ⟨H1,I1,q⟩
variable {tA tB':TT} {rest:List Expr}
def tAnd (t u:TT):TT:=fun σ H Q=>t σ H fun c H1=>if c=true then u σ H1 Q else Q false H1
def tOr (t u:TT):TT:=fun σ H Q=>t σ H fun c H1=>if c=true then Q true H1 else u σ H1 Q
def tNot (t:TT):TT:=fun σ H Q=>t σ H fun c H1=>Q (!c) H1
theorem qX (ha:PT X a tA):PW X (.BoolOp .And [a] pos) tA:=by
 intro wh pins s σ H Q I h
 refine isTrue_and (thn (ha pins s σ H Q I h) fun c s1 e=>?_)
 cases c with
 | true=>exact isTrue_and_nil e
 | false=>exact e
theorem jr (ha:PT X a tA):PW X (.BoolOp .Or [a] pos) tA:=by
 intro wh pins s σ H Q I h
 refine isTrue_or (thn (ha pins s σ H Q I h) fun c s1 e=>?_)
 cases c with
 | false=>exact isTrue_or_nil e
 | true=>exact e
theorem js (ha:PT X a tA) (hb:PW X (.BoolOp .And (b :: rest) pos) tB'):PW X (.BoolOp .And (a :: b :: rest) pos) (tAnd tA tB'):=by
 intro wh pins s σ H Q I h
 refine isTrue_and (thn (ha pins s σ H _ I h) fun c s1 zz=>?_)
 obtain ⟨H1,I1,q1⟩:=zz
 cases c with
 | true=>exact hb wh pins s1 σ H1 Q I1 q1
 | false=>exact ⟨H1,I1,q1⟩
theorem Zq (ha:PT X a tA) (hb:PW X (.BoolOp .Or (b :: rest) pos) tB'):PW X (.BoolOp .Or (a :: b :: rest) pos) (tOr tA tB'):=by
 intro wh pins s σ H Q I h
 refine isTrue_or (thn (ha pins s σ H _ I h) fun c s1 zz=>?_)
 obtain ⟨H1,I1,q1⟩:=zz
 cases c with
 | true=>exact ⟨H1,I1,q1⟩
 | false=>exact hb wh pins s1 σ H1 Q I1 q1
theorem jt (ha:PT X a tA):PT X (.UnaryOp .Not a pos) (tNot tA):=by
 intro pins s σ H Q I h
 exact isTrue_not (ha pins s σ H (fun c H1=>Q (!c) H1) I h)
def z9b (ta tb:TE):TE:=fun σ H Q=>ta σ H fun x H1=>∃c,x=.bl c∧if c=true then tb σ H1 Q else Q (.bl false) H1
def tOrV (ta tb:TE):TE:=fun σ H Q=>ta σ H fun x H1=>∃c,x=.bl c∧if c=true then Q (.bl true) H1 else tb σ H1 Q
def z95 (ta:TE):TE:=fun σ H Q=>ta σ H fun x H1=>∃c,x=.bl c∧Q (.bl (!c)) H1
theorem j8 {op} {t:TE} (h:PE X a t):PE X (.BoolOp op [a] pos) t:=fun pins s σ H Q I hw=>BoolOp_one (h pins s σ H Q I hw)
theorem jh (ha:PE X a ta) (hb:PE X (.BoolOp .And (b :: rest) pos) tb):PE X (.BoolOp .And (a :: b :: rest) pos) (z9b ta tb):=by
 intro pins s σ H Q I h
 refine BoolOp_and (thn (ha pins s σ H _ I h) fun v s1 zz=>?_)
 obtain ⟨x,H1,I1,r1,q1⟩:=zz
 obtain ⟨c,rfl,q1⟩:=q1
 cases r1
 refine wpAny_truthy_bool ?_
 cases c with
 | true=>exact hb pins s1 σ H1 Q I1 q1
 | false=>exact ⟨.bl false,H1,I1,rfl,q1⟩
theorem z3T (ha:PE X a ta) (hb:PE X (.BoolOp .Or (b :: rest) pos) tb):PE X (.BoolOp .Or (a :: b :: rest) pos) (tOrV ta tb):=by
 intro pins s σ H Q I h
 refine BoolOp_or (thn (ha pins s σ H _ I h) fun v s1 zz=>?_)
 obtain ⟨x,H1,I1,r1,q1⟩:=zz
 obtain ⟨c,rfl,q1⟩:=q1
 cases r1
 refine wpAny_truthy_bool ?_
 cases c with
 | false=>exact hb pins s1 σ H1 Q I1 q1
 | true=>exact ⟨.bl true,H1,I1,rfl,q1⟩
theorem z1Y (ha:PE X a ta):PE X (.UnaryOp .Not a pos) (z95 ta):=by
 intro pins s σ H Q I h
 refine UnaryOp_ (thn (ha pins s σ H _ I h) fun v s1 zz=>?_)
 obtain ⟨x,H1,I1,r1,q1⟩:=zz
 obtain ⟨c,rfl,q1⟩:=q1
 cases r1
 exact not_of (wpAny_truthy_bool ⟨.bl (!c),H1,I1,rfl,q1⟩)
def tIf (t:TT) (ta tb:TE):TE:=fun σ H Q=>t σ H fun c H1=>if c=true then ta σ H1 Q else tb σ H1 Q
theorem j6 {c:Expr} (hc:PT X c tA) (ha:PE X a ta) (hb:PE X b tb):PE X (.IfExp c a b pos) (tIf tA ta tb):=by
 intro pins s σ H Q I h
 refine wpAny_IfExp (thn (hc pins s σ H _ I h) fun d s1 zz=>?_)
 obtain ⟨H1,I1,q1⟩:=zz
 cases d with
 | true=>exact ha pins s1 σ H1 Q I1 q1
 | false=>exact hb pins s1 σ H1 Q I1 q1
end
end L2
namespace L2
open PySem PySem.Spec PyProof.Rows
def SqL (K:kn) (H:Hp) (a:Addr) (xs:List V):Prop:=
 Rd H a (.lst xs)∨
  ∃(o:Obj) (its:Array Value) (n:Nat),K.lookup a=some o∧o.cls=.type "list"∧o.dict=none∧o.data=.seq its n∧its.size≤sizeLine∧Vals xs its.toList
def SqT (K:kn) (H:Hp) (a:Addr) (xs:List V):Prop:=
 Rd H a (.tup xs)∨
  ∃(o:Obj) (its:Array Value) (n:Nat),K.lookup a=some o∧o.cls=.type "tuple"∧o.data=.seq its n∧its.size≤sizeLine∧Vals xs its.toList
noncomputable def absV:Value→Option V
 | .none=>some .non
 | .bool b=>some (.bl b)
 | .int i _=>some (.int i)
 | .str x _=>some (.str x)
 | .bytes b _=>some (.byt b)
 | .float b _=>some (.flt b)
 | .ref a=>some (.ref a)
 | .type n=>some (.ty n)
 | _=>none
theorem RelV.abs {x:V} {u:Value} (r:RelV x u):absV u=some x:=by
 cases x with
 | non=>cases r;rfl
 | bl _=>cases r;rfl
 | int _=>obtain ⟨t,rfl⟩:=r;rfl
 | str _=>obtain ⟨t,rfl⟩:=r;rfl
 | byt _=>obtain ⟨t,rfl⟩:=r;rfl
 | flt _=>obtain ⟨t,rfl⟩:=r;rfl
 | ref _=>cases r;rfl
 | ty _=>cases r;rfl
theorem RelV.inj {x y:V} {u:Value} (r:RelV x u) (q:RelV y u):x=y:=kr (r.abs.symm.trans q.abs)
theorem Vals.inj:∀{xs ys:List V} {us:List Value},Vals xs us→Vals ys us→xs=ys
 | _,_,_,.nil,.nil=>rfl
 | _,_,_,.cons r t,.cons r' t'=>by rw [r.inj r',Vals.inj t t']
section
variable {X:Cx} {pins:List (Addr × Obj)} {σ:St} {H:Hp} {s:Shared} {a:Addr} {xs ys:List V}
theorem SqL.of {K:kn} (h:H a=some (.lst xs)):SqL K H a xs:=.inl (.inl h)
theorem SqT.of {K:kn} (h:H a=some (.tup xs)):SqT K H a xs:=.inl (.inl h)
theorem Inv.list (I:Inv X pins σ H s) (h:SqL X.K H a xs):∃its:List Value,Vals xs its∧PlainL s.heap a its.toArray∧xs.length≤sizeLine:=by
 rcases h with h | ⟨o,its,n,hk,hc,hd,hs,hz,r⟩
 ·obtain ⟨z,its,n,r,e⟩:=h.ok I.hok
  exact ⟨its,r,⟨_,n,e,rfl,rfl,rfl⟩,z⟩
 ·refine ⟨its.toList,r,⟨o,n,I.kIn a o hk,hc,hd,by simpa using hs⟩,?_⟩
  have e:=r.length
  simp only [Array.length_toList] at e
  lia
theorem Inv.tuple (I:Inv X pins σ H s) (h:SqT X.K H a xs):∃its:List Value,Vals xs its∧IsTup s.heap a its.toArray∧xs.length≤sizeLine:=by
 rcases h with h | ⟨o,its,n,hk,hc,hs,hz,r⟩
 ·obtain ⟨z,its,r,p⟩:=h.ok I.hok
  exact ⟨its,r,p,z⟩
 ·refine ⟨its.toList,r,⟨o,I.kIn a o hk,hc,n,by simpa using hs⟩,?_⟩
  have e:=r.length
  simp only [Array.length_toList] at e
  lia
theorem Inv.list_inj (I:Inv X pins σ H s) (h:SqL X.K H a xs) (h':SqL X.K H a ys):xs=ys:=by
 obtain ⟨its,r,⟨o,n,e,_,_,d⟩,_⟩:=I.list h
 obtain ⟨its',r',⟨o',n',e',_,_,d'⟩,_⟩:=I.list h'
 rw [e] at e';cases e'
 rw [d] at d'
 injection d' with d1 _
 have:its=its':=by simpa using congrArg Array.toList d1
 subst this
 exact r.inj r'
end
noncomputable abbrev Cx.wish (X:Cx) (E:Value→Shared→Prop):Cx:={ X with xe:=E }
noncomputable abbrev Cx.nox (X:Cx):Cx:=X.wish fun _ _=>False
theorem Cx.Ok.wish {X:Cx} (ok:X.Ok) (E:Value→Shared→Prop):(X.wish E).Ok:=
 ⟨ok.mod,ok.kind,ok.glob,ok.blt,ok.above,ok.inj,ok.has,ok.cab,ok.hd,ok.frames,ok.stk,ok.exf,ok.bs,ok.bsz,ok.noex,ok.exfs,ok.funs,ok.frf⟩
theorem Cx.Ok.unwish {X:Cx} {E:Value→Shared→Prop} (ok:(X.wish E).Ok):X.Ok:=
 ⟨ok.mod,ok.kind,ok.glob,ok.blt,ok.above,ok.inj,ok.has,ok.cab,ok.hd,ok.frames,ok.stk,ok.exf,ok.bs,ok.bsz,ok.noex,ok.exfs,ok.funs,ok.frf⟩
section
variable {X:Cx} {pins:List (Addr × Obj)} {σ:St} {H:Hp} {s:Shared} {E:Value→Shared→Prop}
theorem Inv.wish (I:Inv X pins σ H s) (E:Value→Shared→Prop):Inv (X.wish E) pins σ H s:=⟨I.ok.wish E,I.os,I.bare,I.base,I.loc,I.cell,I.free,I.freeC,I.pin,I.hok,I.len⟩
theorem Inv.unwish (I:Inv (X.wish E) pins σ H s):Inv X pins σ H s:=⟨I.ok.unwish,I.os,I.bare,I.base,I.loc,I.cell,I.free,I.freeC,I.pin,I.hok,I.len⟩
theorem SP.unwish {D:Ends} {f:Flow} {s':Shared} (h:SP (X.wish E) pins D f s'):SP X pins D f s':=by
 cases f with
 | next=>obtain ⟨σ',H',I,q⟩:=h;exact ⟨σ',H',I.unwish,q⟩
 | brk=>obtain ⟨σ',H',I,q⟩:=h;exact ⟨σ',H',I.unwish,q⟩
 | cont=>obtain ⟨σ',H',I,q⟩:=h;exact ⟨σ',H',I.unwish,q⟩
 | ret u=>obtain ⟨v,σ',H',I,r,q⟩:=h;exact ⟨v,σ',H',I.unwish,r,q⟩
theorem PSs.nox {st:List Stmt} {t:TS} (h:PSs X.nox st t):PSs X st t:=fun pins s σ H D I hw=>
 wpAny_mono (h pins s σ H D (I.wish _) hw) (fun _ _ q=>q.unwish) fun _ _ z=>False.elim z
end
section
variable {X:Cx} {st:Stmt} {rest:List Stmt} {t u:TS} {e:Expr} {te:TE} {pos:Pos}
def z96:TS:=fun D σ H=>D.nx σ H
def tSeq (t u:TS):TS:=fun D σ H=>t { D with nx:=u D } σ H
theorem zu:PSs X [] z96:=fun _ _ σ H _ I h=>wpAny_execs_nil ⟨σ,H,I,h⟩
theorem z8 (h1:PS X st t) (h2:PSs X rest u):PSs X (st :: rest) (tSeq t u):=by
 intro pins s σ H D I h
 refine wpAny_execs_cons (thn (h1 pins s σ H { D with nx:=u D } I h) fun f s1 q=>?_)
 cases f with
 | next=>
  obtain ⟨σ',H',I',q⟩:=q
  exact h2 pins s1 σ' H' D I' q
 | ret v=>exact q
 | brk=>exact q
 | cont=>exact q
theorem zd (h1:PS X st t):PSs X [st] t:=by
 intro pins s σ H D I h
 refine wpAny_execs_cons (thn (h1 pins s σ H D I h) fun f s1 q=>?_)
 cases f with
 | next=>exact wpAny_execs_nil q
 | ret v=>exact q
 | brk=>exact q
 | cont=>exact q
theorem Inv.quiet {pins:List (Addr × Obj)} {σ:St} {H:Hp} {s:Shared} (I:Inv X pins σ H s):interactive X.env=false:=by simp [interactive,I.ok.kind]
def z83 (te:TE):TS:=fun D σ H=>te σ H fun _ H1=>D.nx σ H1
theorem zj (he:PE X e te) (hs:autoParam (swapsWith e none pos.line X.env=pure false) aR._auto_1):PS X (.Expr e pos) (z83 te):=by
 intro pins s σ H D I h
 exact wpAny_Expr_any (thn (he pins s σ H _ I h) fun v s1 ⟨x,H1,I1,r1,q1⟩=>⟨σ,H1,I1,q1⟩) I.quiet hs
def tRet (te:TE):TS:=fun D σ H=>te σ H D.rt
theorem zm (he:PE X e te):PS X (.Return (some e) pos) (tRet te):=by
 intro pins s σ H D I h
 exact wpAny_Return_some (thn (he pins s σ H _ I h) fun v s1 ⟨x,H1,I1,r1,q1⟩=>⟨x,σ,H1,I1,r1,q1⟩)
def tIfS (c:TT) (t u:TS):TS:=fun D σ H=>c σ H fun b H1=>if b=true then t D σ H1 else u D σ H1
theorem zH {c:Expr} {a b:List Stmt} {tc:TT} (hc:PT X c tc) (ha:PSs X a t) (hb:PSs X b u):PS X (.If c a b pos) (tIfS tc t u):=by
 intro pins s σ H D I h
 refine wpAny_If (thn (hc pins s σ H _ I h) fun d s1 zz=>?_)
 obtain ⟨H1,I1,q1⟩:=zz
 cases d with
 | true=>exact ha pins s1 σ H1 D I1 q1
 | false=>exact hb pins s1 σ H1 D I1 q1
def z81:TS:=fun _ _ _=>False
theorem Z0 {sts:List Stmt}:PSs X sts z81:=fun _ _ _ _ _ _ h=>h.elim
end
abbrev TG:=V→St→Hp→(St→Hp→Prop)→Prop
abbrev TGs:=List V→St→Hp→(St→Hp→Prop)→Prop
def PG (X:Cx) (target:Expr) (t:TG):Prop:=
 ∀(pins:List (Addr × Obj)) (s:Shared) (σ:St) (H:Hp) (v:V) (u:Value) (Q:St→Hp→Prop),Inv X pins σ H s→RelV v u→t v σ H Q→
  wpAny (model X.prog X.w) X.A (assign target X.env u) (fun _ s'=>∃σ' H',Inv X pins σ' H' s'∧Q σ' H') X.xe s
def PGs (X:Cx) (ts:List Expr) (t:TGs):Prop:=
 ∀(pins:List (Addr × Obj)) (s:Shared) (σ:St) (H:Hp) (vs:List V) (us:List Value) (Q:St→Hp→Prop),Inv X pins σ H s→Vals vs us→t vs σ H Q→
  wpAny (model X.prog X.w) X.A (assignInOrder ((assignEach ts X.env).map (·.2)) us) (fun _ s'=>∃σ' H',Inv X pins σ' H' s'∧Q σ' H') X.xe s
abbrev TSet:=V→V→V→Hp→(Hp→Prop)→Prop
def PSet (X:Cx) (t:TSet):Prop:=
 ∀(pins:List (Addr × Obj)) (s:Shared) (σ:St) (H:Hp) (o i v:V) (ov iv u:Value) (Q:Hp→Prop),Inv X pins σ H s→RelV o ov→RelV i iv→RelV v u→t o i v H Q→
  wpAny (model X.prog X.w) X.A (setItem ov iv u) (fun _ s'=>∃H',Inv X pins σ H' s'∧Q H') X.xe s
section
variable {X:Cx} {pos:Pos}
def z1w (i:Nat):TG:=fun v σ H Q=>Q (σ.set i (some v)) H
theorem zB {i:Nat} {x:Str} (hN:X.N.Nodup) (hi:X.N[i]?=some x) (hx:Loc X.env.scope x) (hf:X.fn x=true∨X.env.scope.names.lookup x=some .local:=by first | exact .inl rfl | exact .inr rfl | assumption):PG X (.Name x pos) (z1w i):=by
 intro pins s σ H v u Q I r h
 exact wpAny_assign_Name (Zx I hN hi hx r (fun s' I'=>⟨_,H,I',h⟩) hf)
def gNil:TGs:=fun vs σ H Q=>vs=[]∧Q σ H
def z9z (t:TG) (u:TGs):TGs:=fun vs σ H Q=>∃v r,vs=v :: r∧t v σ H fun σ' H'=>u r σ' H' Q
theorem qY:PGs X [] gNil:=by
 intro pins s σ H vs us Q I r h
 obtain ⟨e,h⟩:=h
 subst e
 cases r
 exact assignInOrder_nil ⟨σ,H,I,h⟩
theorem zD {e:Expr} {es:List Expr} {t:TG} {u:TGs} (h1:PG X e t) (h2:PGs X es u)
  (hs:autoParam ((assignEach (e :: es) X.env).map (·.2)=assign e X.env :: (assignEach es X.env).map (·.2)) aR._auto_1):PGs X (e :: es) (z9z t u):=by
 intro pins s σ H vs us Q I r h
 obtain ⟨v,vr,e1,h⟩:=h
 subst e1
 cases r with
 | cons r rr=>
  rw [hs]
  refine assignInOrder_cons (thn (h1 pins s σ H _ _ _ I r h) fun _ s1 zz=>?_)
  obtain ⟨σ1,H1,I1,q1⟩:=zz
  exact h2 pins s1 σ1 H1 _ _ Q I1 rr q1
def gTup (K:kn) (n:Nat) (t:TGs):TG:=fun v σ H Q=>∃a xs,v=.ref a∧SqT K H a xs∧xs.length=n∧t xs σ H Q
theorem jX {es:List Expr} {k:Nat} {t:TGs} {n:Nat} (hc:X.calm=true) (h:PGs X es t)
  (hn:autoParam ((assignEach es X.env).length=n) aR._auto_1) (hst:autoParam ((assignEach es X.env).findIdx? (·.1)=none) aR._auto_1):PG X (.Tuple es k pos) (gTup X.K n t):=by
 intro pins s σ H v u Q I r hw
 obtain ⟨a,xs,e1,hq,hl,hw⟩:=hw
 subst e1
 cases r
 obtain ⟨its,rv,ht,hz⟩:=I.tuple hq
 refine assign_Tuple_tuple (I.ok.hd hc) ht (by simp [hn,←hl,rv.length]) hst fun h' hx=>?_
 have I1:Inv X pins σ H { s with heap:=h' }:=I.kept (t':=s.toks) fun b o e=>hx b o (Nat.ne_of_lt (Heap.lt_size e)) e
 exact h pins _ σ H xs _ Q I1 (by simpa using rv) hw
def gSub (to ti:TE) (t:TSet):TG:=fun v σ H Q=>to σ H fun o H1=>ti σ H1 fun i H2=>t o i v H2 fun H3=>Q σ H3
theorem z1X {o i:Expr} {to ti:TE} {t:TSet} (ho:PE X o to) (hi:PE X i ti) (hs:PSet X t)
  (ha:∀v,assign (.Subscript o i pos) X.env v=(do
   let ov ←holding [v] (eval o X.env)
   let iv ←holding [v,ov] (eval i X.env)
   standAt pos
   holding [v,ov,iv] (setItem ov iv v)
   release [v,ov,iv] []):=by intro _;rfl):PG X (.Subscript o i pos) (gSub to ti t):=by
 intro pins s σ H v u Q I r h
 rw [ha]
 refine wpAny_bind (wpAny_holding (thn (ho pins s σ H _ I h) fun ov s1 zz=>?_))
 obtain ⟨x,H1,I1,r1,q1⟩:=zz
 refine wpAny_bind (wpAny_holding (thn (hi pins s1 σ H1 _ I1 q1) fun iv s2 zz=>?_))
 obtain ⟨y,H2,I2,r2,q2⟩:=zz
 refine wpAny_bind (wpAny_standAt (wpAny_bind (wpAny_holding (thn (hs pins s2 σ H2 x y v ov iv u _ I2 r1 r2 r q2) fun _ s3 zz=>?_))))
 obtain ⟨H3,I3,q3⟩:=zz
 exact wpAny_release ⟨σ,H3,I3,q3⟩
def tAsg (te:TE) (g:TG):TS:=fun D σ H=>te σ H fun x H1=>g x σ H1 D.nx
theorem jW {tg e:Expr} {te:TE} {g:TG} (he:PE X e te) (hg:PG X tg g) (hs:autoParam (swapsWithSole [tg] e pos.line X.env=pure false) aR._auto_1) (hw:autoParam (swappedStores [tg] e X.env=pure none) aR._auto_1)
  (h1:autoParam ((assignEach [tg] X.env).map (·.2)=[assign tg X.env]) aR._auto_1):PS X (.Assign [tg] e pos) (tAsg te g):=by
 intro pins s σ H D I h
 refine wpAny_Assign_stores (thn (he pins s σ H _ I h) fun v s1 ⟨x,H1,I1,r1,q1⟩=>?_) hs hw
 rw [h1]
 exact thn (hg pins s1 σ H1 x v _ I1 r1 q1) fun _ s2 q=>q
theorem zI {i:Nat} {x:Str} {e:Expr} {te:TE} {pos':Pos} (hN:X.N.Nodup) (hi:X.N[i]?=some x) (hx:Loc X.env.scope x) (he:PE X e te) (hs:autoParam (swapsWith e (some (.Name x pos')) pos.line X.env=pure false) aR._auto_1) (hf:X.fn x=true∨X.env.scope.names.lookup x=some .local:=by first | exact .inl rfl | exact .inr rfl | assumption):
  PS X (.Assign [.Name x pos'] e pos) (tAsg te (z1w i)):=by
 intro pins s σ H D I h
 refine wpAny_Assign_Name (thn (he pins s σ H _ I h) fun v s1 ⟨y,H1,I1,r1,q1⟩=>?_) hs
 exact Zx I1 hN hi hx r1 (fun s2 I2=>⟨_,H1,I2,q1⟩) hf
def tPar (i j:Nat) (ta:TA):TS:=fun D σ H=>ta σ H fun vs H1=>∃v w,vs=[v,w]∧D.nx ((σ.set i (some v)).set j (some w)) H1
theorem Qc {i j:Nat} {x y:Str} {a b:Expr} {ta:TA} {px py pt:Pos} {kt k2 pt2} (hc:X.calm=true) (hN:X.N.Nodup) (hi:X.N[i]?=some x) (hj:X.N[j]?=some y) (hij:i≠j)
  (hx:X.env.scope.names.lookup x=some .local) (hy:X.env.scope.names.lookup y=some .local) (ha:PA X [a,b] ta)
  (hw:swappedStores [.Tuple [.Name x px,.Name y py] kt pt] (.Tuple [a,b] k2 pt2) X.env=pure (some [x,y]))
  (hs:autoParam (swapsWithSole [.Tuple [.Name x px,.Name y py] kt pt] (.Tuple [a,b] k2 pt2) pos.line X.env=pure false) aR._auto_1):
  PS X (.Assign [.Tuple [.Name x px,.Name y py] kt pt] (.Tuple [a,b] k2 pt2) pos) (tPar i j ta):=by
 intro pins s σ H D I h
 rw [exec_Assign_arm]
 refine wpAny_bind (wpAny_standAt ?_)
 rw [hs]
 refine wpAny_bind (wpAny_pure ?_)
 rw [ko (by decide)]
 refine wpAny_bind (Tuple_ (thn (ha _ pins s σ H _ I h) fun us s1 zz=>?_))
 obtain ⟨vs,H1,I1,r1,q1⟩:=zz
 obtain ⟨v,w,e1,q1⟩:=q1
 subst e1
 obtain ⟨u1,u2,rfl,rv,rw'⟩:∃u1 u2,us=[u1,u2]∧RelV v u1∧RelV w u2:=by
  cases r1 with
  | cons p q=>
   cases q with
   | cons p' q'=>
    cases q'
    exact ⟨_,_,rfl,p,p'⟩
 refine wpAny_newObj_type ?_ (by show 2≤sizeLine;decide)
 have I2:Inv X pins σ H1 { s1 with heap:=s1.heap.push { cls:=.type "tuple",data:=.seq [u1,u2].toArray } }:=I1.kept (t':=s1.toks) fun b o e=>Heap.get?_push_of_some _ e
 rw [hw]
 refine wpAny_bind (wpAny_pure ?_)
 show wpAny (model X.prog X.w) X.A (do rule "assign.swapped-stores";let items ←unpackItems (.ref s1.heap.objs.size) 2 none;assignInOrder [fun v=>bindName X.env y v,fun v=>bindName X.env x v] items.reverse;pure Flow.next) _ _ _
 refine wpAny_bind (wpAny_rule (wpAny_bind (unpackItems_tuple (items:=#[u1,u2]) (I.ok.hd hc) (IsTup.new s1.heap _) fun h' hx'=>?_)))
 have I3:=I2.kept (h':=h') (t':=s1.toks) fun b o e=>hx' b o (Nat.ne_of_lt (Heap.lt_size e)) e
 show wpAny _ _ (assignInOrder [fun v=>bindName X.env y v,fun v=>bindName X.env x v] [u2,u1] >>= fun _=>pure Flow.next) _ _ _
 refine wpAny_bind (assignInOrder_cons (wpAny_bindName (Zx I3 hN hj (.inl hy) rw' (fun s2 I4=>?_) (.inr hy))))
 refine assignInOrder_cons (wpAny_bindName (Zx I4 hN hi (.inl hx) rv (fun s3 I5=>assignInOrder_nil (wpAny_pure ?_)) (.inr hx)))
 rw [List.set_comm _ _ (Ne.symm hij)] at I5
 exact ⟨_,H1,I5,q1⟩
end
section
variable {X:Cx} {pos:Pos}
def z7Y (c:TT) (tb:TS):TS:=fun D σ H=>∃W:Nat→St→Hp→Prop,(∃m,W m σ H)∧∀m σ H,W m σ H→
 c σ H fun b H1=>if b=true then ∃N:St→Hp→Prop,(∀σ' H',N σ' H'→∃m',m' < m∧W m' σ' H')∧tb { D with nx:=N,ct:=N,bk:=D.nx } σ H1 else D.nx σ H1
theorem z1U {c:Expr} {body:List Stmt} {tc:TT} {tb:TS} (hp:PassesOwn (model X.prog X.w) X.A X.env X.xe) (hc:PT X c tc) (hb:PSs X body tb):PS X (.While c body [] pos) (z7Y tc tb):=by
 intro pins s σ H D I h
 obtain ⟨W,⟨m0,w0⟩,turn⟩:=h
 refine wpAny_While (codeAny_whileLoop (fun n s'=>∃σ' H',Inv X pins σ' H' s'∧W n σ' H') ?_ m0 ⟨σ,H,I,w0⟩)
 rintro n s1 ⟨σ1,H1,I1,w1⟩
 refine wpAny_passesOwn hp (thn (hc pins s1 σ1 H1 _ I1 (turn n σ1 H1 w1)) fun b s2 zz=>?_)
 obtain ⟨H2,I2,q2⟩:=zz
 cases b with
 | true=>
  obtain ⟨N,hN,q2⟩:=q2
  rw [kq rfl]
  refine wpAny_passesOwn hp (thn (hb pins s2 σ1 H2 _ I2 q2) fun f s3 q3=>?_)
  cases f with
  | next=>
   obtain ⟨σ3,H3,I3,n3⟩:=q3
   obtain ⟨m',hm,w3⟩:=hN σ3 H3 n3
   exact ⟨m',hm,σ3,H3,I3,w3⟩
  | cont=>
   obtain ⟨σ3,H3,I3,n3⟩:=q3
   obtain ⟨m',hm,w3⟩:=hN σ3 H3 n3
   exact ⟨m',hm,σ3,H3,I3,w3⟩
  | brk=>exact q3
  | ret v=>exact q3
 | false=>
  rw [ko ka]
  exact wpAny_execs_nil ⟨σ1,H2,I2,q2⟩
end
structure It where
 go:Nat→Hp→Prop
 yld:Nat→Hp→V→Hp→Prop
 stop:Nat→Hp→Prop
def FpOk (X:Cx) (pins:List (Addr × Obj)) (H:Hp) (b:Addr):Prop:=
 H b=none∧b≠X.env.locals∧b∉X.fs∧(b∈X.ex∨X.s₀.heap.objs.size≤b)∧(∀x c,X.env.cells.lookup x=some c→c≠b)∧∀p∈X.pn++pins,p.1≠b
theorem Inv.fpOk {X:Cx} {pins:List (Addr × Obj)} {σ:St} {H H':Hp} {s:Shared} {b:Addr} (I:Inv X pins σ H s) (hb:s.heap.objs.size≤b) (hn:H' b=none):FpOk X pins H' b:=by
 refine ⟨hn,Nat.ne_of_gt (kG I.lt hb),I.nofs hb,.inr (km I.sz hb),fun x c e z=>?_,fun p hp z=>?_⟩
 ·obtain ⟨v,q⟩:=I.cell x c e
  exact absurd (kG q.lt (by rw [z];exact hb)) (Nat.lt_irrefl _)
 ·exact absurd (kG (Heap.lt_size (I.pin p hp).1) (by rw [z];exact hb)) (Nat.lt_irrefl _)
structure Turn (P:Program) (w:World) (K:kn) (tg:Expr) (J:It) (fp:List Addr) (it:Addr) (tn:Nat→Heap→Prop):Prop where
 mem:it∈fp
 obj:∀i h,tn i h→∀b∈fp,∃o,h.get? b=some o∧∀v,o.data≠.cell v
 keep:∀i h h',tn i h→(∀b∈fp,∀o,h.get? b=some o→h'.get? b=some o)→tn i h'
 item:∀(X:Cx),X.prog=P→X.w=w→X.K=K→X.calm=true→∀(i:Nat) (pins:List (Addr × Obj)) (s:Shared) (σ:St) (H:Hp) (E:Value→Shared→Prop),Inv X pins σ H s→(∀b∈fp,FpOk X pins H b)→tn i s.heap→J.go i H→
  wpAny (model P w) X.A (pyNext (.ref it)) (fun r s1=>∃u,r=some u∧
   wpAny (model P w) X.A (letOwnedTupleGo tg (.ref it) u) (fun _ s2=>∃x H',Inv X pins σ H' s2∧RelV x u∧J.yld i H x H'∧tn (i+1) s2.heap∧∀b∈fp,H' b=none) E s1) E s
 done:∀(X:Cx),X.prog=P→X.w=w→X.K=K→X.calm=true→∀(i:Nat) (pins:List (Addr × Obj)) (s:Shared) (σ:St) (H:Hp) (E:Value→Shared→Prop),Inv X pins σ H s→(∀b∈fp,FpOk X pins H b)→tn i s.heap→J.stop i H→
  wpAny (model P w) X.A (pyNext (.ref it)) (fun r s1=>r=none∧Inv X pins σ H s1) E s
 self:∀(A:Around) (i:Nat) (s:Shared) (Q:Value→Shared→Prop) (E:Value→Shared→Prop),tn i s.heap→Q (.ref it) s→wpAny (model P w) A (pyIter (.ref it)) Q E s
abbrev TI:=St→Hp→(It→Hp→Prop)→Prop
def PIE (X:Cx) (pins:List (Addr × Obj)) (σ:St) (tg:Expr) (R:It→Hp→Prop) (itv:Value) (s2:Shared):Prop:=
 ∃(it:Addr) (fp:List Addr) (tn:Nat→Heap→Prop) (J:It) (H':Hp),itv=.ref it∧Inv X pins σ H' s2∧Turn X.prog X.w X.K tg J fp it tn∧tn 0 s2.heap∧(∀b∈fp,FpOk X pins H' b)∧R J H'
def PI (X:Cx) (tg iter:Expr) (wi:TI):Prop:=
 ∀(pins:List (Addr × Obj)) (s:Shared) (σ:St) (H:Hp) (R:It→Hp→Prop),Inv X pins σ H s→wi σ H R→
  wpAny (model X.prog X.w) X.A (eval iter X.env) (fun v s1=>wpAny (model X.prog X.w) X.A (pyIter v) (PIE X pins σ tg R) X.xe s1) X.xe s
theorem z8I {M:Model} {A:Around} {E:Value→Shared→Prop} {s:Shared} {tg:Expr} {it:Addr} {u:Value} {o:Obj} {n:String} {vs:Array Value} {Q:Unit→Shared→Prop} (ho:s.heap.get? it=some o) (hc:o.cls=.type n) (hd:o.data=.fields vs)
  (hn:["enumerate","zip","dict_itemiterator","dict_reverseitemiterator","odict_iterator","itertools.zip_longest","itertools.pairwise"].contains n=false) (hQ:Q () s):wpAny M A (letOwnedTupleGo tg (.ref it) u) Q E s:=by
 unfold letOwnedTupleGo
 cases tg <;> first
  | exact wpAny_pure hQ
  | (cases u <;> first
    | exact wpAny_pure hQ
    | (refine wpAny_bind (wpAny_load ho ?_);rw [hc,hd];show wpAny M A (if (["enumerate","zip","dict_itemiterator","dict_reverseitemiterator","odict_iterator","itertools.zip_longest","itertools.pairwise"].contains n&&vs[0]? == some (rawInt _))=true then _ else _) Q E s;rw [ko (by intro h;rw [hn,Bool.false_and] at h;cases h)];exact wpAny_pure hQ))
noncomputable def Itl (K:kn) (a:Addr):It:=
 ⟨fun i H=>∃xs x,SqL K H a xs∧xs[i]?=some x,fun i H x H'=>H'=H∧∀xs,SqL K H a xs→xs[i]?=some x,fun i H=>∃xs,SqL K H a xs∧xs.length≤i⟩
noncomputable def Itr (lo:Int) (n:Nat):It:=⟨fun i _=>i < n,fun i H x H'=>H'=H∧x=.int (lo+i),fun i _=>n≤i⟩
theorem z3h {P:Program} {w:World} {K:kn} {tg:Expr} (a it:Addr):Turn P w K tg (Itl K a) [it] it (fun i h=>h.IsListIter it a i) where
 mem:=by simp
 obj:=fun i h st b hb=>by
  have e:b=it:=by simpa using hb
  subst e
  obtain ⟨o,e,c,d⟩:=st
  exact ⟨o,e,fun v z=>by rw [d] at z;cases z⟩
 keep:=fun i h h' st k=>st.at fun o e=>k it (by simp) o e
 item:=by
  intro X hP hw hK hc i pins s σ H E I hf st hg
  subst hP hw hK
  obtain ⟨xs,x,hq,hx⟩:=hg
  obtain ⟨its,rv,p,hz⟩:=I.list hq
  obtain ⟨u,hu,ru⟩:=rv.get hx
  obtain ⟨f0,f1,f2,f3,f4,f5⟩:=hf it (by simp)
  refine wpAny_pyNext_list_item st p.isList (x:=u) (by simpa using hu) fun h' st' sb=>?_
  have I1:Inv X pins σ H { s with heap:=h' }:=I.turned (t':=s.toks) (fun b o hb e=>(sb.2 b hb).trans e) f0 f1 f3 f4 f5
  obtain ⟨o,e,c,d⟩:=id st'
  exact ⟨u,rfl,z8I (s:={ s with heap:=h' }) e c d (by decide) ⟨x,H,I1,ru,⟨rfl,fun ys hy=>by rw [I.list_inj hy hq];exact hx⟩,st',fun b hb=>(hf b hb).1⟩⟩
 done:=by
  intro X hP hw hK hc i pins s σ H E I hf st hg
  subst hP hw hK
  obtain ⟨xs,hq,hx⟩:=hg
  obtain ⟨its,rv,p,hz⟩:=I.list hq
  obtain ⟨f0,f1,f2,f3,f4,f5⟩:=hf it (by simp)
  have hl:=rv.length
  exact wpAny_pyNext_list_end (I.ok.hd hc) st p.isList (by simp;lia) fun h' eb=>⟨rfl,I.turned (t':=s.toks) (fun b o hb e=>eb b o hb e) f0 f1 f3 f4 f5⟩
 self:=fun _ _ _ _ _ st h=>wpAny_pyIter_listiter st h
theorem z2u {P:Program} {w:World} {K:kn} {tg:Expr} (it:Addr) (lo:Int) (n:Nat):Turn P w K tg (Itr lo n) [it] it (fun i h=>IsRangeIter h it (lo+(i:Nat) * 1) ((n:Int) - (i:Nat)) 1) where
 mem:=by simp
 obj:=fun i h st b hb=>by
  have e:b=it:=by simpa using hb
  subst e
  exact ⟨_,st,fun v z=>by
   have z':Data.fields _=Data.cell v:=z
   cases z'⟩
 keep:=fun i h h' st k=>k it (by simp) _ st
 item:=by
  intro X hP hw hK hc i pins s σ H E I hf st hg
  subst hP hw hK
  obtain ⟨f0,f1,f2,f3,f4,f5⟩:=hf it (by simp)
  have W:=Walks.range (prog:=X.prog) (w:=X.w) (I.ok.hd hc) it lo 1 n
  refine W.item i s _ _ hg st fun v h' tk hv st' kk=>?_
  obtain ⟨t,rfl⟩:=hv
  have I1:Inv X pins σ H { s with heap:=h',toks:=tk }:=I.turned (fun b o hb e=>kk b o (by simpa using hb) e) f0 f1 f3 f4 f5
  refine ⟨_,rfl,z8I (s:={ s with heap:=h',toks:=tk }) (n:="range_iterator") st' rfl rfl (by decide) ⟨.int (lo+i),H,I1,⟨t,?_⟩,⟨rfl,rfl⟩,st',fun b hb=>(hf b hb).1⟩⟩
  rw [Int.mul_one]
 done:=by
  intro X hP hw hK hc i pins s σ H E I hf st hg
  subst hP hw hK
  obtain ⟨f0,f1,f2,f3,f4,f5⟩:=hf it (by simp)
  exact wpAny_pyNext_range_end (I.ok.hd hc) st (by have:n≤i:=hg;lia) fun h' eb=>⟨rfl,I.turned (t':=s.toks) (fun b o hb e=>eb b o hb e) f0 f1 f3 f4 f5⟩
 self:=fun _ _ _ _ _ st h=>wpAny_pyIter_rangeiter st h
end L2
namespace L2
open PySem PySem.Spec PyProof.Rows
section
variable {X:Cx} {tg:Expr}
def z9v (K:kn) (tl:TE):TI:=fun σ H R=>tl σ H fun x H1=>∃a,x=.ref a∧(∃xs,SqL K H1 a xs)∧R (Itl K a) H1
theorem ZZ {l:Expr} {tl:TE} (hl:PE X l tl):PI X tg l (z9v X.K tl):=by
 intro pins s σ H R I h
 refine thn (hl pins s σ H _ I h) fun v s1 zz=>?_
 obtain ⟨x,H1,I1,r1,q1⟩:=zz
 obtain ⟨a,e,⟨xs,hq⟩,q⟩:=q1
 subst e
 cases r1
 obtain ⟨its,rv,p,hz⟩:=I1.list hq
 refine wpAny_pyIter_list p.isList ?_
 refine ⟨s1.heap.objs.size,[s1.heap.objs.size],_,_,H1,rfl,I1.kept (t':=s1.toks) fun b o e=>Heap.get?_push_of_some _ e,z3h a _,⟨_,Heap.get?_push_size _ rfl,rfl,rfl⟩,fun b hb=>?_,q⟩
 have e:b=s1.heap.objs.size:=by simpa using hb
 subst e
 exact I1.fpOk (kc _) (I1.hok.fresh (kc _))
theorem z5e {pins:List (Addr × Obj)} {σ:St} {H:Hp} {s:Shared} {R:It→Hp→Prop} {E:Value→Shared→Prop} {lo hi:Int} {t u v:Tok} {tk:Nat} (I:Inv X pins σ H s) (h1: -(2 ^ 62)≤lo) (h2:lo < 2 ^ 62) (h3: -(2 ^ 62)≤hi) (h4:hi < 2 ^ 62)
  (q:R (Itr lo (hi - lo).toNat) H):wpAny (model X.prog X.w) X.A (pyIter (.ref s.heap.objs.size)) (PIE X pins σ tg R) E { s with heap:=s.heap.push { cls:=.type "range",data:=.fields #[.int lo t,.int hi u,.int 1 v] },toks:=tk }:=by
 refine wpAny_pyIter_range (IsRange.new ..) (small_one h1 h2 h3 h4) ?_
 have I1:Inv X pins σ H { s with heap:=s.heap.push { cls:=.type "range",data:=.fields #[.int lo t,.int hi u,.int 1 v] },toks:=tk }:=I.kept fun b o e=>Heap.get?_push_of_some _ e
 refine ⟨(s.heap.push { cls:=.type "range",data:=.fields #[.int lo t,.int hi u,.int 1 v] }).objs.size,[(s.heap.push { cls:=.type "range",data:=.fields #[.int lo t,.int hi u,.int 1 v] }).objs.size],_,_,H,rfl,
  I1.kept (t':=tk) fun b o e=>Heap.get?_push_of_some _ e,z2u _ lo (hi - lo).toNat,?_,fun b hb=>?_,q⟩
 ·have e1:lo+((0:Nat):Int) * 1=lo:=by simp
  have e2:(((hi - lo).toNat:Nat):Int) - ((0:Nat):Int)=Builtin.Range.rangeSize lo hi 1:=by rw [rangeSize_one];split <;> lia
  show IsRangeIter _ _ (lo+((0:Nat):Int) * 1) ((((hi - lo).toNat:Nat):Int) - ((0:Nat):Int)) 1
  rw [e1,e2]
  exact Heap.get?_push_size _ rfl
 ·have e:b=(s.heap.push { cls:=.type "range",data:=.fields #[.int lo t,.int hi u,.int 1 v] }).objs.size:=by simpa using hb
  subst e
  exact I1.fpOk (kc _) (I1.hok.fresh (kc _))
def z8G (ta:TA):TI:=fun σ H R=>ta σ H fun vs H1=>∃j:Int,vs=[.int j]∧-(2 ^ 62)≤j∧j < 2 ^ 62∧R (Itr 0 j.toNat) H1
theorem qA {a:Expr} {ta:TA} {p pos:Pos} (hg:Gl X "range") (hm:X.mg "range"=none) (ha:PA X [a] ta) (hs:autoParam (starEach [a] X.env=[(false,eval a X.env)]) aR._auto_1):PI X tg (.Call (.Name "range" p) [a] [] pos) (z8G ta):=by
 intro pins s σ H R I h
 refine Call_ (z0C I hg hm boot_range (PyProof.Rows.callWith_type1 (thn (ha pos pins s σ H _ I h) fun us s1 ⟨vs,H1,I1,r1,q1⟩=>?_) hs rfl))
 obtain ⟨j,e,q1,q2,q⟩:=q1
 subst e
 cases r1 with
 | cons r rr=>
  cases rr
  obtain ⟨t,rfl⟩:=r
  exact call_range_1 (z5e I1 (by lia) (by lia) q1 q2 (by simpa using q))
def tFor (wi:TI) (g:TG) (tb:TS):TS:=fun D σ H=>wi σ H fun J H1=>∃W:Nat→Nat→St→Hp→Prop,(∃m,W 0 m σ H1)∧∀i m σ H,W i m σ H→
 (J.stop i H∧D.nx σ H)∨(J.go i H∧∃N:St→Hp→Prop,(∀σ' H',N σ' H'→∃m',m' < m∧W (i+1) m' σ' H')∧∀x H',J.yld i H x H'→g x σ H' fun σ2 H2=>tb { D with nx:=N,ct:=N,bk:=D.nx } σ2 H2)
noncomputable def z0l (fp:List Addr) (h:Heap):List (Addr × Obj):=fp.filterMap fun b=>(h.get? b).map fun o=>(b,o)
theorem jl {fp:List Addr} {h:Heap} {b:Addr} {o:Obj} (hb:b∈fp) (e:h.get? b=some o):(b,o)∈z0l fp h:=List.mem_filterMap.mpr ⟨b,hb,by rw [e];rfl⟩
theorem z44 {fp:List Addr} {h:Heap} {p:Addr × Obj} (hp:p∈z0l fp h):p.1∈fp∧h.get? p.1=some p.2:=by
 obtain ⟨b,hb,e⟩:=List.mem_filterMap.mp hp
 cases q:h.get? b with
 | none=>rw [q] at e;cases e
 | some o=>
  rw [q] at e
  have e':(b,o)=p:=kr e
  subst e'
  exact ⟨hb,q⟩
theorem Inv.pinned {pins:List (Addr × Obj)} {σ:St} {H:Hp} {s:Shared} {fp:List Addr} (I:Inv X pins σ H s) (hf:∀b∈fp,FpOk X pins H b) (ho:∀b∈fp,∃o,s.heap.get? b=some o∧∀v,o.data≠.cell v):Inv X (pins++z0l fp s.heap) σ H s:=
 I.pins_of fun p hp=>(kM.mp hp).elim (fun z=>I.pin p (kH _ z)) fun z=>by
  obtain ⟨hb,e⟩:=z44 z
  obtain ⟨f0,f1,f2,_⟩:=hf p.1 hb
  obtain ⟨o,e',d⟩:=ho p.1 hb
  rw [e] at e';cases e'
  exact ⟨e,f0,f1,f2,d⟩
theorem Inv.unpinned {pins pl:List (Addr × Obj)} {σ:St} {H:Hp} {s:Shared} (I:Inv X (pins++pl) σ H s):Inv X pins σ H s:=I.pins_of fun p hp=>I.pin p (kH _ (kI _ hp))
theorem Z1 {iter:Expr} {body:List Stmt} {wi:TI} {g:TG} {tb:TS} {pos:Pos} (hp:PassesOwn (model X.prog X.w) X.A X.env X.xe) (hc:X.calm=true) (hi:PI X tg iter wi) (hg:PG X tg g) (hb:PSs X body tb)
  (hs:∀x,foldedSetIterable iter X.env x=pure x:=by intro _;rfl):PS X (.For tg iter body [] pos) (tFor wi g tb):=by
 intro pins s σ H D I h
 refine wpAny_For (thn (hi pins s σ H _ I h) fun v s1 h1=>thn h1 fun itv s2 h2=>?_) hs
 obtain ⟨it,fp,tn,J,H2,e,I2,T,st2,f2,W,⟨m0,w0⟩,turn⟩:=h2
 subst e
 have stat:∀{H':Hp},(∀b∈fp,H' b=none)→∀b∈fp,FpOk X pins H' b:=fun hn b hb=>⟨hn b hb,(f2 b hb).2⟩
 refine codeAny_forLoop_any (fun n s'=>∃i σ' H',Inv X pins σ' H' s'∧tn i s'.heap∧(∀b∈fp,H' b=none)∧W i n σ' H') ?_ m0 ⟨0,σ,H2,I2,st2,fun b hb=>(f2 b hb).1,w0⟩
 rintro n s3 ⟨i,σ3,H3,I3,st3,fr3,w3⟩
 rcases turn i n σ3 H3 w3 with ⟨stop,qn⟩ | ⟨go,N,hN,step⟩
 ·refine wpAny_passesOwn hp (thn (T.done X rfl rfl rfl hc i pins s3 σ3 H3 X.xe I3 (stat fr3) st3 stop) fun r s4 zz=>?_)
  obtain ⟨hr,I4⟩:=zz
  subst hr
  exact wpAny_execs_nil ⟨σ3,H3,I4,qn⟩
 ·refine wpAny_passesOwn hp (thn (T.item X rfl rfl rfl hc i pins s3 σ3 H3 X.xe I3 (stat fr3) st3 go) fun r s4 zz=>?_)
  obtain ⟨u,hr,h4⟩:=zz
  subst hr
  refine wpAny_passesOwn hp (thn h4 fun _ s5 zz=>?_)
  obtain ⟨x,H5,I5,r5,y5,st5,fr5⟩:=zz
  have I5':=I5.pinned (stat fr5) (T.obj _ _ st5)
  refine wpAny_passesOwn hp (thn (hg _ s5 σ3 H5 x u _ I5' r5 (step x H5 y5)) fun _ s6 zz=>?_)
  obtain ⟨σ6,H6,I6,q6⟩:=zz
  refine wpAny_passesOwn hp (thn (hb _ s6 σ6 H6 _ I6 q6) fun f s7 q7=>?_)
  have again:∀{σ7:St} {H7:Hp},Inv X (pins++z0l fp s5.heap) σ7 H7 s7→N σ7 H7→∃m,m < n∧∃i σ' H',Inv X pins σ' H' s7∧tn i s7.heap∧(∀b∈fp,H' b=none)∧W i m σ' H':=fun {σ7 H7} I7 n7=>by
   obtain ⟨m',hm,w7⟩:=hN σ7 H7 n7
   refine ⟨m',hm,i+1,σ7,H7,I7.unpinned,T.keep _ _ _ st5 fun b hb o e=>(I7.pin (b,o) (kH _ (kH _ (jl hb e)))).1,fun b hb=>?_,w7⟩
   obtain ⟨o,e,d⟩:=T.obj _ _ st5 b hb
   exact (I7.pin (b,o) (kH _ (kH _ (jl hb e)))).2.1
  cases f with
  | next=>obtain ⟨σ7,H7,I7,n7⟩:=q7;exact again I7 n7
  | cont=>obtain ⟨σ7,H7,I7,n7⟩:=q7;exact again I7 n7
  | brk=>obtain ⟨σ7,H7,I7,q7⟩:=q7;exact ⟨σ7,H7,I7.unpinned,q7⟩
  | ret v=>obtain ⟨x7,σ7,H7,I7,r7,q7⟩:=q7;exact ⟨x7,σ7,H7,I7.unpinned,r7,q7⟩
end
theorem z2c {K:kn} {a:Addr} {xs:List V} {g:TG} {tb:TS} {D:Ends} {σ:St} {H:Hp} (Pv:Nat→St→Hp→Prop) (h0:Pv 0 σ H) (hl:∀i σ H,i≤xs.length→Pv i σ H→SqL K H a xs)
  (hs:∀i x σ H,xs[i]?=some x→Pv i σ H→g x σ H fun σ2 H2=>tb { D with nx:=Pv (i+1),ct:=Pv (i+1),bk:=D.nx } σ2 H2) (hd:∀σ H,Pv xs.length σ H→D.nx σ H):
  ∃W:Nat→Nat→St→Hp→Prop,(∃m,W 0 m σ H)∧∀i m σ H,W i m σ H→
   ((Itl K a).stop i H∧D.nx σ H)∨((Itl K a).go i H∧∃N:St→Hp→Prop,(∀σ' H',N σ' H'→∃m',m' < m∧W (i+1) m' σ' H')∧∀x H',(Itl K a).yld i H x H'→g x σ H' fun σ2 H2=>tb { D with nx:=N,ct:=N,bk:=D.nx } σ2 H2):=by
 refine ⟨fun i m σ H=>m=xs.length - i∧i≤xs.length∧Pv i σ H,⟨xs.length,by simp,Nat.zero_le _,h0⟩,?_⟩
 rintro i m σ H ⟨rfl,hi,p⟩
 have q:=hl i σ H hi p
 by_cases hlt:i < xs.length
 ·refine .inr ⟨⟨xs,xs[i],q,by simp [hlt]⟩,Pv (i+1),fun σ' H' p'=>⟨xs.length - (i+1),by lia,rfl,hlt,p'⟩,fun x H' y=>?_⟩
  obtain ⟨e,y⟩:=y
  subst e
  exact hs i x σ _ (y xs q) p
 ·have e:i=xs.length:=by lia
  subst e
  exact .inl ⟨⟨xs,q,kc _⟩,hd σ H p⟩
theorem jw {lo:Int} {n:Nat} {g:TG} {tb:TS} {D:Ends} {σ:St} {H:Hp} (Pv:Nat→St→Hp→Prop) (h0:Pv 0 σ H)
  (hs:∀i σ H,i < n→Pv i σ H→g (.int (lo+i)) σ H fun σ2 H2=>tb { D with nx:=Pv (i+1),ct:=Pv (i+1),bk:=D.nx } σ2 H2) (hd:∀σ H,Pv n σ H→D.nx σ H):
  ∃W:Nat→Nat→St→Hp→Prop,(∃m,W 0 m σ H)∧∀i m σ H,W i m σ H→
   ((Itr lo n).stop i H∧D.nx σ H)∨((Itr lo n).go i H∧∃N:St→Hp→Prop,(∀σ' H',N σ' H'→∃m',m' < m∧W (i+1) m' σ' H')∧∀x H',(Itr lo n).yld i H x H'→g x σ H' fun σ2 H2=>tb { D with nx:=N,ct:=N,bk:=D.nx } σ2 H2):=by
 refine ⟨fun i m σ H=>m=n - i∧i≤n∧Pv i σ H,⟨n,by simp,Nat.zero_le _,h0⟩,?_⟩
 rintro i m σ H ⟨rfl,hi,p⟩
 by_cases hlt:i < n
 ·refine .inr ⟨hlt,Pv (i+1),fun σ' H' p'=>⟨n - (i+1),by lia,rfl,hlt,p'⟩,fun x H' y=>?_⟩
  obtain ⟨e,y⟩:=y
  subst e y
  exact hs i σ _ hlt p
 ·have e:i=n:=by lia
  subst e
  exact .inl ⟨kc _,hd σ H p⟩
end L2
namespace L2
open PySem PySem.Spec PyProof.Rows
abbrev R2:=V→V→Hp→VK→Prop
def OpR (X:Cx) (f:Value→Value→Sem Value) (r:R2):Prop:=
 ∀(pins:List (Addr × Obj)) (s:Shared) (σ:St) (H:Hp) (x y:V) (v u:Value) (Q:VK),Inv X pins σ H s→RelV x v→RelV y u→r x y H Q→
  wpAny (model X.prog X.w) X.A (f v u) (EP X pins σ Q) X.xe s
def UnR (X:Cx) (f:Value→Sem Value) (r:V→Hp→VK→Prop):Prop:=
 ∀(pins:List (Addr × Obj)) (s:Shared) (σ:St) (H:Hp) (x:V) (v:Value) (Q:VK),Inv X pins σ H s→RelV x v→r x H Q→
  wpAny (model X.prog X.w) X.A (f v) (EP X pins σ Q) X.xe s
def Jd (X:Cx) (f:Value) (r:List V→Hp→VK→Prop):Prop:=
 ∀(pins:List (Addr × Obj)) (s:Shared) (σ:St) (H:Hp) (xs:List V) (us:List Value) (Q:VK),Inv X pins σ H s→Vals xs us→r xs H Q→
  wpAny (model X.prog X.w) X.A (call f us) (EP X pins σ Q) X.xe s
def TruR (X:Cx) (r:V→Hp→(Bool→Hp→Prop)→Prop):Prop:=
 ∀(pins:List (Addr × Obj)) (s:Shared) (σ:St) (H:Hp) (x:V) (v:Value) (Q:Bool→Hp→Prop),Inv X pins σ H s→RelV x v→r x H Q→
  wpAny (model X.prog X.w) X.A (truthy v) (TP X pins σ Q) X.xe s
def tOp (r:R2) (ta tb:TE):TE:=fun σ H Q=>ta σ H fun x H1=>tb σ H1 fun y H2=>r x y H2 Q
def tUn (r:V→Hp→VK→Prop) (ta:TE):TE:=fun σ H Q=>ta σ H fun x H1=>r x H1 Q
def rI (C:Int→Int→Prop) (g:Int→Int→V):R2:=fun x y H Q=>∃i j,x=.int i∧y=.int j∧C i j∧Q (g i j) H
def rI0 (g:Int→Int→V):R2:=fun x y H Q=>∃i j,x=.int i∧y=.int j∧Q (g i j) H
def rU (g:Int→V):V→Hp→VK→Prop:=fun x H Q=>∃i,x=.int i∧Q (g i) H
section
variable {X:Cx} {a b c:Expr} {ta tb tc:TE} {pos:Pos}
theorem binT (ha:PE X a ta) (hb:PE X b tb) {pins:List (Addr × Obj)} {s:Shared} {σ:St} {H:Hp} {R:V→V→Hp→Prop} (I:Inv X pins σ H s)
  (h:ta σ H fun x H1=>tb σ H1 fun y H2=>R x y H2) {Q:Value→Shared→Prop} {f:Value→Value→Sem Value}
  (hf:∀v u s2 x y H2,Inv X pins σ H2 s2→RelV x v→RelV y u→R x y H2→wpAny (model X.prog X.w) X.A (f v u) Q X.xe s2):
  wpAny (model X.prog X.w) X.A (eval a X.env) (fun v s₁=>wpAny (model X.prog X.w) X.A (eval b X.env) (fun u s₂=>wpAny (model X.prog X.w) X.A (f v u) Q X.xe s₂) X.xe s₁) X.xe s:=by
 refine thn (ha pins s σ H _ I h) fun v s1 zz=>?_
 obtain ⟨x,H1,I1,r1,q1⟩:=zz
 refine thn (hb pins s1 σ H1 _ I1 q1) fun u s2 zz=>?_
 obtain ⟨y,H2,I2,r2,q2⟩:=zz
 exact hf v u s2 x y H2 I2 r1 r2 q2
theorem zG {op:Operator} {r:R2} (ho:OpR X (binaryOp op) r) (ha:PE X a ta) (hb:PE X b tb):PE X (.BinOp a op b pos) (tOp r ta tb):=by
 intro pins s σ H Q I h
 exact wpAny_BinOp (binT ha hb I h fun v u s2 x y H2 I2 rx ry q=>ho pins s2 σ H2 x y v u Q I2 rx ry q)
theorem JH {op:UnaryOp} {r:V→Hp→VK→Prop} (ho:UnR X (unaryOp op) r) (ha:PE X a ta):PE X (.UnaryOp op a pos) (tUn r ta):=by
 intro pins s σ H Q I h
 exact UnaryOp_ (thn (ha pins s σ H _ I h) fun v s1 ⟨x,H1,I1,r1,q1⟩=>ho pins s1 σ H1 x v Q I1 r1 q1)
theorem opI {f:Value→Value→Sem Value} {C:Int→Int→Prop} {g:Int→Int→Int}
  (rule:∀(i j:Int) (t u:Tok) (s:Shared) (Q:Value→Shared→Prop) (E:Value→Shared→Prop),C i j→Q (.int (g i j) s.toks) { s with toks:=s.toks+1 }→wpAny (model X.prog X.w) X.A (f (.int i t) (.int j u)) Q E s):
  OpR X f (rI C fun i j=>.int (g i j)):=by
 intro pins s σ H x y v u Q I rx ry h
 obtain ⟨i,j,rfl,rfl,hc,q⟩:=h
 obtain ⟨t,rfl⟩:=rx
 obtain ⟨t',rfl⟩:=ry
 exact rule i j t t' s _ _ hc ⟨.int (g i j),H,I.tok _,⟨_,rfl⟩,q⟩
theorem opI0 {f:Value→Value→Sem Value} {g:Int→Int→Int}
  (rule:∀(i j:Int) (t u:Tok) (s:Shared) (Q:Value→Shared→Prop) (E:Value→Shared→Prop),Q (.int (g i j) s.toks) { s with toks:=s.toks+1 }→wpAny (model X.prog X.w) X.A (f (.int i t) (.int j u)) Q E s):
  OpR X f (rI0 fun i j=>.int (g i j)):=by
 intro pins s σ H x y v u Q I rx ry h
 obtain ⟨i,j,rfl,rfl,q⟩:=h
 obtain ⟨t,rfl⟩:=rx
 obtain ⟨t',rfl⟩:=ry
 exact rule i j t t' s _ _ ⟨.int (g i j),H,I.tok _,⟨_,rfl⟩,q⟩
theorem opB0 {f:Value→Value→Sem Value} {g:Int→Int→Bool}
  (rule:∀(i j:Int) (t u:Tok) (s:Shared) (Q:Value→Shared→Prop) (E:Value→Shared→Prop),Q (.bool (g i j)) s→wpAny (model X.prog X.w) X.A (f (.int i t) (.int j u)) Q E s):
  OpR X f (rI0 fun i j=>.bl (g i j)):=by
 intro pins s σ H x y v u Q I rx ry h
 obtain ⟨i,j,rfl,rfl,q⟩:=h
 obtain ⟨t,rfl⟩:=rx
 obtain ⟨t',rfl⟩:=ry
 exact rule i j t t' s _ _ ⟨.bl (g i j),H,I,rfl,q⟩
def CDiv (i j:Int):Prop:=0 < j∧j < 1073741824
def CPow (i j:Int):Prop:=0≤j∧j≤1000000∧i.natAbs < 2 ^ 64
def CMul (i j:Int):Prop:=(-(2 ^ 64) < i∧i < 2 ^ 64)∨(-(2 ^ 64) < j∧j < 2 ^ 64)
theorem CMul.ok {i j:Int} (h:CMul i j):IntMulOk i j:=by
 rcases h with ⟨h1,h2⟩ | ⟨h1,h2⟩
 ·exact .of_left (intBits_le_64 h1 h2)
 ·exact .of_right (intBits_le_64 h1 h2)
theorem j9:OpR X (binaryOp .Add) (rI0 fun i j=>.int (i+j)):=opI0 fun _ _ _ _ _ _ _ q=>add_int q
theorem qo:OpR X (binaryOp .Sub) (rI0 fun i j=>.int (i - j)):=opI0 fun _ _ _ _ _ _ _ q=>sub_int q
theorem Jp:OpR X (binaryOp .Mult) (rI CMul fun i j=>.int (i * j)):=opI fun _ _ _ _ _ _ _ hc q=>mul_int q hc.ok
theorem QW:OpR X (binaryOp .FloorDiv) (rI CDiv fun i j=>.int (i / j)):=opI fun i j _ _ _ _ _ hc q=>by
 have h1:(0:Int) < j:=hc.1
 have h2:j < 1073741824:=hc.2
 exact floordiv_int (by lia) (by rw [Int.fdiv_eq_ediv_of_nonneg i (by lia)];exact q) (.inl (PyProof.noPylong_small (by lia)))
theorem QU:OpR X (binaryOp .Mod) (rI (fun _ j=>0 < j) fun i j=>.int (i % j)):=opI fun i j _ _ _ _ _ hc q=>by
 have h1:(0:Int) < j:=hc
 exact mod_int' (by lia) (by rw [Int.fmod_eq_emod_of_nonneg i (by lia)];exact q)
theorem z3Z:OpR X (binaryOp .Mod) (rI (fun _ j=>j≠0) fun i j=>.int (i.fmod j)):=opI fun _ _ _ _ _ _ _ hc q=>mod_int' hc q
theorem z0o:OpR X (binaryOp .Pow) (rI CPow fun i j=>.int (i ^ j.toNat)):=opI fun _ _ _ _ _ _ _ hc q=>pow_int_small hc.1 hc.2.1 hc.2.2 q
theorem unI {f:Value→Sem Value} {g:Int→Int}
  (rule:∀(i:Int) (t:Tok) (s:Shared) (Q:Value→Shared→Prop) (E:Value→Shared→Prop),Q (.int (g i) s.toks) { s with toks:=s.toks+1 }→wpAny (model X.prog X.w) X.A (f (.int i t)) Q E s):
  UnR X f (rU fun i=>.int (g i)):=by
 intro pins s σ H x v Q I rx h
 obtain ⟨i,rfl,q⟩:=h
 obtain ⟨t,rfl⟩:=rx
 exact rule i t s _ _ ⟨.int (g i),H,I.tok _,⟨_,rfl⟩,q⟩
theorem Zw:UnR X (unaryOp .USub) (rU fun i=>.int (-i)):=unI fun _ _ _ _ _ q=>neg_int q
end
noncomputable def scal:V→V→Bool
 | .non,.non=>true | .non,.int _=>true | .int _,.non=>true | .non,.bl _=>true | .bl _,.non=>true | .non,.str _=>true | .str _,.non=>true
 | .int _,.int _=>true | .bl _,.bl _=>true | .str _,.str _=>true | .byt _,.byt _=>true
 | .int _,.str _=>true | .str _,.int _=>true | .bl _,.str _=>true | .str _,.bl _=>true
 | _,_=>false
def rEq:R2:=fun x y H Q=>scal x y=true∧Q (.bl (decide (x=y))) H
def rNe:R2:=fun x y H Q=>scal x y=true∧Q (.bl (!decide (x=y))) H
theorem z4F {i j:Int}:decide (V.int i=V.int j)=(i == j):=by
 rw [Bool.eq_iff_iff]
 simp
theorem Ju {i j:Bool}:decide (V.bl i=V.bl j)=(i == j):=by
 rw [Bool.eq_iff_iff]
 simp
theorem z4E {i j:Str}:decide (V.str i=V.str j)=(i == j):=by
 rw [Bool.eq_iff_iff]
 simp
theorem z4G {i j:Array UInt8}:decide (V.byt i=V.byt j)=(i.toList == j.toList):=by
 rw [Bool.eq_iff_iff]
 cases i
 cases j
 simp
section
variable {X:Cx} {a b c:Expr} {ta tb tc:TE} {pos:Pos}
theorem zT {pins:List (Addr × Obj)} {σ:St} {H:Hp} {s:Shared} {Q:VK} {k k':Bool} (I:Inv X pins σ H s) (q:Q (.bl k) H) (e:k=k'):EP X pins σ Q (.bool k') s:=by
 subst e
 exact ⟨.bl k,H,I,rfl,q⟩
theorem qe:OpR X (compareOp .Eq) rEq:=by
 intro pins s σ H x y v u Q I rx ry h
 obtain ⟨hs,q⟩:=h
 cases x with
 | non=>
  cases rx
  cases y with
  | non=>cases ry;exact PySem.EqNone.eq_none_none (zT I q (by simp))
  | bl j=>cases ry;exact PySem.EqNone.eq_none_bool (zT I q (by simp))
  | int j=>obtain ⟨t',rfl⟩:=ry;exact PySem.EqNone.eq_none_int (zT I q (by simp))
  | str j=>obtain ⟨t',rfl⟩:=ry;exact PySem.EqNone.eq_none_str (zT I q (by simp))
  | _=>exact absurd (show false=true from hs) ka
 | bl i=>
  cases rx
  cases y with
  | non=>cases ry;exact PySem.EqNone.eq_bool_none (zT I q (by simp))
  | bl j=>cases ry;exact eq_bool (zT I q Ju)
  | str j=>obtain ⟨t',rfl⟩:=ry;exact PySem.EqMixed.eq_bool_str (zT I q (by simp))
  | _=>exact absurd (show false=true from hs) ka
 | int i=>
  obtain ⟨t,rfl⟩:=rx
  cases y with
  | non=>cases ry;exact PySem.EqNone.eq_int_none (zT I q (by simp))
  | int j=>obtain ⟨t',rfl⟩:=ry;exact eq_int (zT I q z4F)
  | str j=>obtain ⟨t',rfl⟩:=ry;exact PySem.EqMixed.eq_int_str (zT I q (by simp))
  | _=>exact absurd (show false=true from hs) ka
 | str i=>
  obtain ⟨t,rfl⟩:=rx
  cases y with
  | non=>cases ry;exact PySem.EqNone.eq_str_none (zT I q (by simp))
  | bl j=>cases ry;exact PySem.EqMixed.eq_str_bool (zT I q (by simp))
  | int j=>obtain ⟨t',rfl⟩:=ry;exact PySem.EqMixed.eq_str_int (zT I q (by simp))
  | str j=>obtain ⟨t',rfl⟩:=ry;exact eq_str (zT I q z4E)
  | _=>exact absurd (show false=true from hs) ka
 | byt i=>
  obtain ⟨t,rfl⟩:=rx
  cases y with
  | byt j=>obtain ⟨t',rfl⟩:=ry;exact PySem.W.eq_bytes (zT I q z4G)
  | _=>exact absurd (show false=true from hs) ka
 | _=>cases y <;> exact absurd (show false=true from hs) ka
theorem z0p:OpR X (compareOp .NotEq) rNe:=by
 intro pins s σ H x y v u Q I rx ry h
 obtain ⟨hs,q⟩:=h
 cases x with
 | non=>
  cases rx
  cases y with
  | non=>cases ry;exact PySem.EqNone.ne_none_none (zT I q (by simp))
  | bl j=>cases ry;exact PySem.EqNone.ne_none_bool (zT I q (by simp))
  | int j=>obtain ⟨t',rfl⟩:=ry;exact PySem.EqNone.ne_none_int (zT I q (by simp))
  | str j=>obtain ⟨t',rfl⟩:=ry;exact PySem.EqNone.ne_none_str (zT I q (by simp))
  | _=>exact absurd (show false=true from hs) ka
 | bl i=>
  cases rx
  cases y with
  | non=>cases ry;exact PySem.EqNone.ne_bool_none (zT I q (by simp))
  | bl j=>cases ry;exact ne_bool (zT I q (congrArg not Ju))
  | str j=>obtain ⟨t',rfl⟩:=ry;exact PySem.EqMixed.ne_bool_str (zT I q (by simp))
  | _=>exact absurd (show false=true from hs) ka
 | int i=>
  obtain ⟨t,rfl⟩:=rx
  cases y with
  | non=>cases ry;exact PySem.EqNone.ne_int_none (zT I q (by simp))
  | int j=>obtain ⟨t',rfl⟩:=ry;exact ne_int (zT I q (congrArg not z4F))
  | str j=>obtain ⟨t',rfl⟩:=ry;exact PySem.EqMixed.ne_int_str (zT I q (by simp))
  | _=>exact absurd (show false=true from hs) ka
 | str i=>
  obtain ⟨t,rfl⟩:=rx
  cases y with
  | non=>cases ry;exact PySem.EqNone.ne_str_none (zT I q (by simp))
  | bl j=>cases ry;exact PySem.EqMixed.ne_str_bool (zT I q (by simp))
  | int j=>obtain ⟨t',rfl⟩:=ry;exact PySem.EqMixed.ne_str_int (zT I q (by simp))
  | str j=>obtain ⟨t',rfl⟩:=ry;exact ne_str (zT I q (congrArg not z4E))
  | _=>exact absurd (show false=true from hs) ka
 | byt i=>
  obtain ⟨t,rfl⟩:=rx
  cases y with
  | byt j=>obtain ⟨t',rfl⟩:=ry;exact PySem.W.ne_bytes (zT I q (congrArg not z4G))
  | _=>exact absurd (show false=true from hs) ka
 | _=>cases y <;> exact absurd (show false=true from hs) ka
theorem Q2:OpR X (compareOp .Lt) (rI0 fun i j=>.bl (decide (i < j))):=opB0 fun _ _ _ _ _ _ _ q=>lt_int q
theorem z0q:OpR X (compareOp .LtE) (rI0 fun i j=>.bl (decide (i≤j))):=opB0 fun _ _ _ _ _ _ _ q=>le_int q
theorem JN:OpR X (compareOp .Gt) (rI0 fun i j=>.bl (decide (j < i))):=opB0 fun _ _ _ _ _ _ _ q=>gt_int q
theorem z5s:OpR X (compareOp .GtE) (rI0 fun i j=>.bl (decide (j≤i))):=opB0 fun _ _ _ _ _ _ _ q=>ge_int q
theorem QV:OpR X (compareOp .Is) (fun x y H Q=>y=.non∧Q (.bl (decide (x=.non))) H):=by
 intro pins s σ H x y v u Q I rx ry h
 obtain ⟨rfl,q⟩:=h
 cases ry
 refine is_none_gen (zT I q ?_)
 cases x <;> first
  | (cases rx;rfl)
  | (obtain ⟨t,rfl⟩:=rx;rfl)
theorem JL:OpR X (compareOp .IsNot) (fun x y H Q=>y=.non∧Q (.bl (!decide (x=.non))) H):=by
 intro pins s σ H x y v u Q I rx ry h
 obtain ⟨rfl,q⟩:=h
 cases ry
 refine isnot_none_gen (zT I q ?_)
 cases x <;> first
  | (cases rx;rfl)
  | (obtain ⟨t,rfl⟩:=rx;rfl)
theorem zo (b:Expr) {op:CmpOp} (h:autoParam (op≠.In) aR._auto_2) (h2:autoParam (op≠.NotIn) aR._auto_2):behindInMarks op b=false:=by
 have e1:(op == CmpOp.In)=false:=by cases op <;> first | rfl | exact absurd rfl h
 have e2:(op == CmpOp.NotIn)=false:=by cases op <;> first | rfl | exact absurd rfl h2
 cases b <;> simp [behindInMarks,e1,e2]
theorem zU {op:CmpOp} {r:R2} (ho:OpR X (compareOp op) r) (ha:PE X a ta) (hb:PE X b tb) (hm:behindInMarks op b=false):PE X (.Compare a [op] [b] pos) (tOp r ta tb):=by
 intro pins s σ H Q I h
 exact wpAny_Compare1 (binT ha hb I h fun v u s2 x y H2 I2 rx ry q=>ho pins s2 σ H2 x y v u Q I2 rx ry q) hm
def z3j (t:TE):TT:=fun σ H Q=>t σ H fun x H'=>∃k,x=.bl k∧Q k H'
theorem zk {op:CmpOp} {r:R2} (ho:OpR X (compareOp op) r) (ha:PE X a ta) (hb:PE X b tb) (hm:behindInMarks op b=false):PT X (.Compare a [op] [b] pos) (z3j (tOp r ta tb)):=by
 intro pins s σ H Q I h
 refine wpAny_isTrue_Compare1 (thn (ha pins s σ H _ I h) fun v s1 ⟨x,H1,I1,r1,q1⟩=>thn (hb pins s1 σ H1 _ I1 q1) fun u s2 ⟨y,H2,I2,r2,q2⟩=>
  thn (ho pins s2 σ H2 x y v u _ I2 r1 r2 q2) fun c s3 ⟨z,H3,I3,r3,k,e,q3⟩=>?_) hm
 subst e
 cases r3
 exact wpAny_truthy_bool ⟨H3,I3,q3⟩
def z87 (r r':R2) (ta tb tc:TE):TE:=fun σ H Q=>ta σ H fun x H1=>tb σ H1 fun y H2=>r x y H2 fun z H3=>∃k,z=.bl k∧
 (if k=true then tc σ H3 fun w' H4=>r' y w' H4 Q else Q (.bl false) H3)
theorem JJ {op op':CmpOp} {r r':R2} (ho:OpR X (compareOp op) r) (ho':OpR X (compareOp op') r') (ha:PE X a ta) (hb:PE X b tb) (hc:PE X c tc)
  (hm:lastMarks [op,op'] [b,c]=false:=by with_unfolding_all rfl):PE X (.Compare a [op,op'] [b,c] pos) (z87 r r' ta tb tc):=by
 intro pins s σ H Q I h
 refine Compare_chain (thn (ha pins s σ H _ I h) fun v s1 ⟨x,H1,I1,r1,q1⟩=>chain_link (thn (hb pins s1 σ H1 _ I1 q1) fun u s2 ⟨y,H2,I2,r2,q2⟩=>
  thn (ho pins s2 σ H2 x y v u _ I2 r1 r2 q2) fun d s3 ⟨z,H3,I3,r3,k,e,q3⟩=>?_)) hm
 subst e
 cases r3
 refine wpAny_truthy_bool ?_
 cases k with
 | false=>exact ite_ff ⟨.bl false,H3,I3,rfl,q3⟩
 | true=>exact ite_tt (chain_last (thn (hc pins s3 σ H3 _ I3 q3) fun w' s4 ⟨z',H4,I4,r4,q4⟩=>ho' pins s4 σ H4 y z' u w' Q I4 r2 r4 q4))
def TruV (K:kn) (x:V) (H:Hp) (k:Bool):Prop:=
 match x with
 | .non=>k=false
 | .bl b=>k=b
 | .int i=>k=(i != 0)
 | .str y=>y.length≤sizeLine∧k=((y.length:Int) != 0)
 | .byt y=>y.size≤sizeLine∧k=((y.size:Int) != 0)
 | .ref p=>(∃xs,SqL K H p xs∧k= !xs.isEmpty)∨(∃xs,SqT K H p xs∧k= !xs.isEmpty)∨∃kvs,H p=some (.dK kvs)∧k= !kvs.isEmpty
 | _=>False
theorem z2M {κ:Type} {kvs:List (κ × V)} {vs:List (κ × Value)} (r:KV kvs vs):(!vs.isEmpty)= !kvs.isEmpty:=by
 cases r <;> rfl
theorem Jr {xs:List V} {its:List Value} (r:Vals xs its):(!its.toArray.isEmpty)= !xs.isEmpty:=by
 cases r <;> simp
theorem J1:(sizeLine:Nat) < 2 ^ 63:=by rw [sizeLine_eq];decide
theorem z7X:TruR X (fun x H Q=>∃k,TruV X.K x H k∧Q k H):=by
 intro pins s σ H x v Q I rx h
 obtain ⟨k,e,q⟩:=h
 have hl:=J1
 have hs:sizeLine=16777216:=sizeLine_eq
 cases x with
 | non=>
  cases rx
  have e':k=false:=e
  subst e'
  exact truthy_none ⟨H,I,q⟩
 | bl b=>
  cases rx
  have e':k=b:=e
  subst e'
  exact wpAny_truthy_bool ⟨H,I,q⟩
 | int i=>
  obtain ⟨t,rfl⟩:=rx
  have e':k=(i != 0):=e
  subst e'
  exact PySem.P.truthy_int ⟨H,I,q⟩
 | str y=>
  obtain ⟨t,rfl⟩:=rx
  obtain ⟨hy,e'⟩:y.length≤sizeLine∧k=((y.length:Int) != 0):=e
  subst e'
  exact PySem.P.truthy_str (by lia) ⟨H,I.tok _,q⟩
 | byt y=>
  obtain ⟨t,rfl⟩:=rx
  obtain ⟨hy,e'⟩:y.size≤sizeLine∧k=((y.size:Int) != 0):=e
  subst e'
  exact PySem.W.truthy_bytes (by lia) ⟨H,I.tok _,q⟩
 | ref p=>
  cases rx
  have e':(∃xs,SqL X.K H p xs∧k= !xs.isEmpty)∨(∃xs,SqT X.K H p xs∧k= !xs.isEmpty)∨∃kvs,H p=some (.dK kvs)∧k= !kvs.isEmpty:=e
  rcases e' with ⟨xs,hx,e'⟩ | ⟨xs,hx,e'⟩ | ⟨kvs,hx,e'⟩
  ·subst e'
   obtain ⟨its,r,pl,hz⟩:=I.list hx
   have hlen:=r.length
   exact wpAny_truthy_list pl.isList (by simp only [kx];lia) ⟨H,I.tok _,by rw [Jr r];exact q⟩
  ·subst e'
   obtain ⟨its,r,pl,hz⟩:=I.tuple hx
   have hlen:=r.length
   exact truthy_tuple pl (by simp only [kx];lia) ⟨H,I.tok _,by rw [Jr r];exact q⟩
  ·subst e'
   obtain ⟨hz,hS,vs,r,m⟩:kvs.length≤sizeLine∧(p == sysModules)=false∧∃vs,KV kvs vs∧s.heap.DictOf (qj X.prog X.w) p vs:=I.hok p _ hx
   have hlen:kvs.length=vs.length:=Paired.length r
   exact wpAny_truthy_dict hS m (by lia) ⟨H,I.tok _,by rw [z2M r];exact q⟩
 | _=>exact (show False from e).elim
theorem Qx (ha:PE X a ta) (he:∀whole,isTrue a X.env whole=(do let v ←whole;standAt a.pos;holding [v] (truthy v))):
  PT X a (fun σ H Q=>ta σ H fun x H'=>∃k,TruV X.K x H' k∧Q k H'):=by
 intro pins s σ H Q I h
 exact isTrue_plain (thn (ha pins s σ H _ I h) fun v s1 ⟨x,H1,I1,r1,q1⟩=>z7X pins s1 σ H1 x v Q I1 r1 q1) (he _)
theorem z2t {x:V} {us:List Value} (r:Vals [x] us):∃u,us=[u]∧RelV x u:=by
 cases r with
 | cons r1 r2=>cases r2;exact ⟨_,rfl,r1⟩
theorem z6N {x y:V} {us:List Value} (r:Vals [x,y] us):∃u w',us=[u,w']∧RelV x u∧RelV y w':=by
 cases r with
 | cons r1 r2=>
  cases r2 with
  | cons r3 r4=>cases r4;exact ⟨_,_,rfl,r1,r3⟩
theorem z02:Jd X (.builtin "abs") (fun xs H Q=>∃i,xs=[.int i]∧Q (.int (if i < 0 then -i else i)) H):=by
 intro pins s σ H xs us Q I r h
 obtain ⟨i,rfl,q⟩:=h
 obtain ⟨u,rfl,t,rfl⟩:=z2t r
 exact call_abs_int fun u tk=>⟨.int (if i < 0 then -i else i),H,I.tok _,⟨_,rfl⟩,q⟩
theorem z4W (hc:X.calm=true):Jd X (.builtin "max") (fun xs H Q=>∃i j,xs=[.int i,.int j]∧Q (.int (if j > i then j else i)) H):=by
 intro pins s σ H xs us Q I r h
 obtain ⟨i,j,rfl,q⟩:=h
 obtain ⟨u,w',rfl,⟨t,rfl⟩,⟨t',rfl⟩⟩:=z6N r
 refine max_two_ints (I.ok.hd hc) fun h' tk k=>⟨_,H,I.kept k,?_,q⟩
 by_cases hj:j > i
 ·rw [kq hj,kq hj];exact ⟨_,rfl⟩
 ·rw [ko hj,ko hj];exact ⟨_,rfl⟩
theorem z4V (hc:X.calm=true):Jd X (.builtin "min") (fun xs H Q=>∃i j,xs=[.int i,.int j]∧Q (.int (if j < i then j else i)) H):=by
 intro pins s σ H xs us Q I r h
 obtain ⟨i,j,rfl,q⟩:=h
 obtain ⟨u,w',rfl,⟨t,rfl⟩,⟨t',rfl⟩⟩:=z6N r
 refine min_two_ints (I.ok.hd hc) fun h' tk k=>⟨_,H,I.kept k,?_,q⟩
 by_cases hj:j < i
 ·rw [kq hj,kq hj];exact ⟨_,rfl⟩
 ·rw [ko hj,ko hj];exact ⟨_,rfl⟩
end
end L2
namespace L2
open PySem PySem.Spec PyProof.Rows
structure ObjM (h:Heap) (x dx C:Addr) (mA:Str→Option Value):Prop where
 obj:h.get? x=some (PySem.W.instObj C dx)
 ns:h.Ns1 dx mA
 ne:dx≠x
theorem z4b {h:Heap} {dx:Addr} {mA:Str→Option Value} (n:h.Ns1 dx mA):∃od,h.get? dx=some od∧∀name,PySem.W.lookIn name od=some (mA name):=by
 obtain ⟨o,es,ep,ho,hd,hk,_,hm⟩:=n
 refine ⟨o,ho,fun name=>?_⟩
 have e:=hm name
 unfold nsFind findBy at e
 rw [←Array.find?_toList] at e
 unfold PySem.W.lookIn
 rw [hd]
 dsimp only
 split
 ·rename_i y q
  rw [q] at e
  exact congrArg some e
 ·rename_i q
  rw [q] at e
  have a:es.toList.any (·.refKey)=false:=by
   rw [List.any_eq_false]
   intro y hy
   obtain ⟨z,t,hkey⟩:=hk y (Array.mem_toList_iff.mp hy)
   simp [DictEntry.refKey,hkey]
  have a':¬es.toList.any (·.refKey)=true:=by rw [a];exact ka
  rw [ko a']
  exact congrArg some e
theorem ObjM.look {h:Heap} {x dx C:Addr} {mA:Str→Option Value} (I:ObjM h x dx C mA):∃od,PySem.W.InstAt h x (PySem.W.instObj C dx) C (some od)∧∀name,PySem.W.lookIn name od=some (mA name):=
 let ⟨od,ho,hl⟩:=z4b I.ns
 ⟨od,⟨I.obj,rfl,rfl,ho⟩,hl⟩
section
variable {prog:Program} {w:World} {A:Around} {E:Value→Shared→Prop} {s:Shared} {K:kn} {x dx C f:Addr} {mA:Str→Option Value} {name:Str} {v:Value}
end
theorem RelO.some_of {v:V} {o:Option Value} (r:RelO (some v) o):∃u,o=some u∧RelV v u:=by
 cases o with
 | none=>exact (show False from r).elim
 | some u=>exact ⟨u,rfl,r⟩
section
variable {P:Program} {w:World} {H H':Hp} {h h':Heap} {a C dx:Addr} {fs fs':List (Str × V)}
theorem z7h (hok:HOk P w H h) (e:H a=some (.ins C dx fs)):∃mA,ObjM h a dx C mA∧(∀f,RelO (fs.lookup f) (mA f))∧PySem.Within mA (fs.map (·.1))∧fs.length≤1000∧H dx=some (.own a):=by
 obtain ⟨d,z,ne,ob,mA,n,r,q⟩:=(show qF P w H h a (.ins C dx fs) from hok a _ e)
 exact ⟨mA,⟨ob,n,ne⟩,r,q,z,d⟩
end
structure Cls (K:kn) (C:Addr):Prop where
 pg:PySem.W.plainGet K C Str.empty=true
 hd:PySem.W.hasDictIn K C=true
 po:PySem.W.plainOver K C=true
 sa:PySem.W.findIn K (.ref C) "__setattr__"=some (some (.builtin "object.__setattr__"))
theorem Cls.get {K:kn} {C:Addr} (c:Cls K C) (f:Str):PySem.W.plainGet K C f=true:=c.pg
section
variable {X:Cx} {pins:List (Addr × Obj)} {σ:St} {H:Hp} {s:Shared} {a C dx:Addr} {fs:List (Str × V)} {f:Str} {v:V} {A:Around} {E:Value→Shared→Prop}
end
section
variable {X:Cx} {o e value:Expr} {f:Str} {pos pos' tpos:Pos} {ta tv:TE}
end
section
variable {X:Cx} {pins:List (Addr × Obj)} {σ:St} {H:Hp} {s:Shared} {A:Around} {E:Value→Shared→Prop} {Q:Value→Shared→Prop} {c:Value} {b:Bool}
inductive TyOf (K:kn) (H:Hp):V→Value→Prop where
 | non:TyOf K H .non (.type "NoneType")
 | bl (x:Bool):TyOf K H (.bl x) (.type "bool")
 | int (i:Int):TyOf K H (.int i) (.type "int")
 | str (x:Str):TyOf K H (.str x) (.type "str")
 | flt (x:UInt64):TyOf K H (.flt x) (.type "float")
 | lst {a:Addr} {xs:List V} (e:H a=some (.lst xs)):TyOf K H (.ref a) (.type "list")
 | frz {a:Addr} {o:Obj} {xs:List V} (e:H a=some (.frz o (.lst xs))):TyOf K H (.ref a) (.type "list")
 | tup {a:Addr} {xs:List V} (e:H a=some (.tup xs)):TyOf K H (.ref a) (.type "tuple")
 | dK {a:Addr} {kvs:List (Key × V)} (e:H a=some (.dK kvs)):TyOf K H (.ref a) (.type "dict")
 | dT {a:Addr} {kvs:List (List Key × V)} (e:H a=some (.dT kvs)):TyOf K H (.ref a) (.type "dict")
 | ins {a C dx:Addr} {fs:List (Str × V)} (e:H a=some (.ins C dx fs)) (cl:Cls K C) (ha:PySem.W.findIn K (.ref C) "__class__"=some (some (.builtin "object.__class__")))
   (hn:PySem.W.specialIn K (.builtin "object.__class__") "__get__"=some (some (.builtin "getset_descriptor.__get__"))) (htk:PySem.W.takesIn K (.builtin "object.__class__")=some true)
   (hm:PySem.W.mroIn K C (.type "object")=some true):TyOf K H (.ref a) (.ref C)
theorem z4k {x:V} {u t:Value} (I:Inv X pins σ H s) (rx:RelV x u) (ty:TyOf X.K H x t) (e:PySem.W.kitOne X.K t c=some b) (h:∀tk,Q (.bool b) { s with toks:=tk }):
  wpAny (model X.prog X.w) A (call (.builtin "isinstance") [u,c]) Q E s:=by
 cases ty with
 | non=>cases (show u=Value.none from rx);exact PySem.W.kia_one PySem.W.kitx_none I.kIn True.intro e (fun z=>nomatch z) h
 | bl y=>cases (show u=Value.bool y from rx);exact PySem.W.kia_one PySem.W.kitx_bool I.kIn True.intro e (fun z=>nomatch z) h
 | int i=>obtain ⟨t,q⟩:=(show ∃t,u=Value.int i t from rx);cases q;exact PySem.W.kia_one PySem.W.kitx_int I.kIn True.intro e (fun z=>nomatch z) h
 | str y=>obtain ⟨t,q⟩:=(show ∃t,u=Value.str y t from rx);cases q;exact PySem.W.kia_one PySem.W.kitx_str I.kIn True.intro e (fun z=>nomatch z) h
 | flt y=>obtain ⟨t,q⟩:=(show ∃t,u=Value.float y t from rx);cases q;exact PySem.W.kia_one PySem.W.kitx_float I.kIn True.intro e (fun z=>nomatch z) h
 | @lst a xs ea=>
  cases (show u=Value.ref a from rx)
  obtain ⟨_,_,n,_,h1⟩:=(show qF X.prog X.w H s.heap a (.lst xs) from I.hok a _ ea)
  exact PySem.W.kia_one PySem.W.kitx_list I.kIn ⟨_,h1,rfl⟩ e (fun z=>nomatch z) h
 | @frz a ob xs ea=>
  cases (show u=Value.ref a from rx)
  obtain ⟨_,_,_,n,_,h1⟩:=(show qF X.prog X.w H s.heap a (.frz ob (.lst xs)) from I.hok a _ ea)
  exact PySem.W.kia_one PySem.W.kitx_list I.kIn ⟨_,h1,rfl⟩ e (fun z=>nomatch z) h
 | @tup a xs ea=>
  cases (show u=Value.ref a from rx)
  obtain ⟨_,_,_,p⟩:=(show qF X.prog X.w H s.heap a (.tup xs) from I.hok a _ ea)
  obtain ⟨o,h1,h2,_⟩:=p
  exact PySem.W.kia_one PySem.W.kitx_tuple I.kIn ⟨o,h1,h2⟩ e (fun z=>nomatch z) h
 | @dK a kvs ea=>
  cases (show u=Value.ref a from rx)
  obtain ⟨_,_,vs,_,p⟩:=(show qF X.prog X.w H s.heap a (.dK kvs) from I.hok a _ ea)
  obtain ⟨o,es,ep,h1,h2,_⟩:=p
  exact PySem.W.kia_one PySem.W.kitx_dict I.kIn ⟨o,h1,h2.1⟩ e (fun z=>nomatch z) h
 | @dT a kvs ea=>
  cases (show u=Value.ref a from rx)
  obtain ⟨_,_,xs,_,o,es,ep,h1,h2,_⟩:=(show qF X.prog X.w H s.heap a (.dT kvs) from I.hok a _ ea)
  exact PySem.W.kia_one PySem.W.kitx_dict I.kIn ⟨o,h1,h2.1⟩ e (fun z=>nomatch z) h
 | @ins a C dx fs ea cl ha hn htk hm=>
  cases (show u=Value.ref a from rx)
  obtain ⟨mA,O,_⟩:=z7h I.hok ea
  obtain ⟨od,J,_⟩:=O.look
  exact PySem.W.kia_one (PySem.W.kitx_own (cl.get _) cl.hd ha hn htk hm) I.kIn J e (fun z=>nomatch z) h
end
end L2
namespace L2
open PySem PySem.Spec PyProof.Rows
structure Room (k:Nat) (A:Around):Prop where
 hd:A.handled=none
 dp:A.depth+3 * k+5 < recursionLimit
 un:A.units+16 * k+200 < cLine
 gd:A.guards=some []
theorem Room.mono {j k:Nat} {A:Around} (r:Room k A) (h:j≤k):Room j A:=⟨r.hd,by have:=r.dp;lia,by have:=r.un;lia,r.gd⟩
theorem Room.deeper {k:Nat} {A:Around} (r:Room (k+1) A) (env:Env):Room k (A.deeper env):=
 ⟨r.hd,by have:=r.dp;show A.depth+1+3 * k+5 < _;lia,by have:=r.un;show A.units+3+16 * k+200 < _;lia,r.gd⟩
theorem Room.depth {k:Nat} {A:Around} (r:Room k A):A.depth < recursionLimit:=by have:=r.dp;lia
theorem Room.units {k:Nat} {A:Around} (r:Room k A):A.units+64 < cLine:=by have:=r.un;lia
theorem Room.units0 {k:Nat} {A:Around} (r:Room k A):A.units < cLine:=by have:=r.un;lia
abbrev tNil:TA:=fun _ H Q=>Q [] H
abbrev qV (ta:TE) (tr:TA):TA:=fun σ H Q=>ta σ H fun x H1=>tr σ H1 fun xs H2=>Q (x :: xs) H2
section
variable {X:Cx} {e:Expr} {es:List Expr} {te:TE} {t:TA} {pos:Pos}
theorem z7:PA X [] tNil:=fun _ _ _ _ H Q I h=>Calls.spliced_nil ⟨[],H,I,.nil,h⟩
theorem z6 (ha:PE X e te) (hr:PA X es t) (hs:autoParam (starEach (e :: es) X.env=(false,eval e X.env) :: starEach es X.env) aR._auto_1):PA X (e :: es) (qV te t):=by
 intro pos pins s σ H Q I h
 rw [hs]
 show wpAny _ _ (spliced ((false,eval e X.env) :: backTo pos (starEach es X.env))) _ _ s
 refine Calls.spliced_cons (thn (ha pins s σ H _ I h) fun u s1 zz=>?_)
 obtain ⟨x,H1,I1,r1,q1⟩:=zz
 exact thn (hr pos pins s1 σ H1 _ I1 q1) fun us s2 ⟨xs,H2,I2,r2,q2⟩=>⟨x :: xs,H2,I2,.cons r1 r2,q2⟩
def tTup (t:TA):TE:=fun σ H Q=>t σ H fun xs H1=>xs.length≤sizeLine∧∀p,H1 p=none→Q (.ref p) (upd H1 p (.tup xs))
def tLst (t:TA):TE:=fun σ H Q=>t σ H fun xs H1=>xs.length≤sizeLine∧∀p,H1 p=none→Q (.ref p) (upd H1 p (.lst xs))
theorem zF {x1} (h:PA X es t):PE X (.Tuple es x1 pos) (tTup t):=by
 intro pins s σ H Q I hq
 refine wpAny_Tuple_spliced (thn (h pos pins s σ H _ I hq) fun us s1 ⟨xs,H1,I1,r,z,q⟩=>⟨by rw [←r.length];exact z,?_⟩)
 have hf:H1 s1.heap.objs.size=none:=I1.hok.fresh (kc _)
 refine ⟨.ref s1.heap.objs.size,upd H1 s1.heap.objs.size (.tup xs),I1.laid (t':=s1.toks) (fun b u e=>Heap.get?_push_of_some _ e) (kc _) ?_,rfl,q _ hf⟩
 exact ⟨z,us,r,⟨_,Heap.get?_push_size _ rfl,rfl,_,rfl⟩⟩
theorem zO (h:PA X es t):PE X (.List es pos) (tLst t):=by
 intro pins s σ H Q I hq
 refine wpAny_List_spliced (thn (h pos pins s σ H _ I hq) fun us s1 ⟨xs,H1,I1,r,z,q⟩=>⟨by rw [←r.length];exact z,?_⟩)
 have hf:H1 s1.heap.objs.size=none:=I1.hok.fresh (kc _)
 refine ⟨.ref s1.heap.objs.size,upd H1 s1.heap.objs.size (.lst xs),I1.laid (t':=s1.toks) (fun b u e=>Heap.get?_push_of_some _ e) (kc _) ?_,rfl,q _ hf⟩
 exact ⟨z,us,0,r,Heap.get?_push_size _ rfl⟩
end
abbrev Sp:=List V→Hp→VK→XK→Prop
abbrev CXT:=List Env→Hp→Shared→XK→Value→Shared→Prop
structure Env0 (P:Program) (w:World) (K:kn) (mg:Str→Option Value) (base:Heap) (A:Around) (outer:List Env) (s:Shared) (H:Hp):Prop where
 frames:A.frames=some outer
 mod:Mod K mg base
 bs:∀b o,base.get? b=some o→s.heap.get? b=some o∧H b=none
 bsz:base.objs.size≤s.heap.objs.size
 funs:s.heap.FunFrames base outer
 frf:∀b∈frs outer,H b=none
 hok:HOk P w H s.heap
 bare:AllBare s.gens
def CE (outer:List Env) (P:Program) (w:World) (H:Hp) (s:Shared) (Q:VK) (u:Value) (s':Shared):Prop:=
 ∃v H',s'.os=s.os∧AllBare s'.gens∧Un (frs outer) [] H H' s.heap s'.heap∧HOk P w H' s'.heap∧RelV v u∧Q v H'
def CR (CX:CXT) (outer:List Env) (P:Program) (w:World) (H:Hp) (s:Shared) (Q:VK) (E:XK) (r:Result) (s':Shared):Prop:=
 match r with
 | .ok (.ret u)=>CE outer P w H s Q u s'
 | .ok _=>False
 | .error e=>CX outer H s E e s'
structure FnOk (P:Program) (w:World) (K:kn) (mg:Str→Option Value) (base:Heap) (CX:CXT) (k:Nat) (f:Addr) (fd:FuncData) (ps:List Str) (sp:Sp):Prop where
 len:∀vs H Q E,sp vs H Q E→vs.length=ps.length
 run:∀(A:Around) (outer:List Env) (s:Shared) (H:Hp) (args:Args) (us:List Value) (vs:List V) (Q:VK) (E:XK),Room k A→Env0 P w K mg base A outer s H→BindsTo s fd args (ps.zip us)→Vals vs us→sp vs H Q E→
  codeAny (model P w) A (.call (.ref f) args) (CR CX outer P w H s Q E) s
theorem FnOk.mono {P:Program} {w:World} {K:kn} {mg:Str→Option Value} {base:Heap} {CX:CXT} {j k:Nat} {f:Addr} {fd:FuncData} {ps:List Str} {sp:Sp} (F:FnOk P w K mg base CX j f fd ps sp) (h:j≤k):
  FnOk P w K mg base CX k f fd ps sp:=⟨F.len,fun A outer s H args us vs Q E hr=>F.run A outer s H args us vs Q E (hr.mono h)⟩
theorem FnOk.imp {P:Program} {w:World} {K:kn} {mg:Str→Option Value} {base:Heap} {CX:CXT} {k:Nat} {f:Addr} {fd:FuncData} {ps:List Str} {sp sp':Sp} (F:FnOk P w K mg base CX k f fd ps sp)
  (h:∀vs H Q E,sp' vs H Q E→sp vs H Q E):FnOk P w K mg base CX k f fd ps sp':=
 ⟨fun vs H Q E q=>F.len vs H Q E (h _ _ _ _ q),fun A outer s H args us vs Q E hr he hb hv hs=>F.run A outer s H args us vs Q E hr he hb hv (h _ _ _ _ hs)⟩
section
variable {X:Cx} {pins:List (Addr × Obj)} {σ:St} {H:Hp} {s s':Shared}
theorem Inv.env0 (I:Inv X pins σ H s):Env0 X.prog X.w X.K X.mg X.base X.A X.stack s H:=
 ⟨I.ok.frames,I.ok.mod,I.bs,km I.ok.bsz I.sz,I.stack,I.stkFree,I.hok,I.bare⟩
theorem Inv.after {Q:VK} {u:Value} (I:Inv X pins σ H s) (h:CE X.stack X.prog X.w H s Q u s'):EP X pins σ Q u s':=by
 obtain ⟨v,H',os,bare,un,hok,r,q⟩:=h
 obtain ⟨hh,g,d,t,os'⟩:=s'
 obtain rfl:os'=s.os:=os
 exact ⟨v,H',I.call (h':=hh) (g':=g) (d':=d) (t':=t) (ch:=[]) un hok bare (fun b z=>absurd z (by simp)),r,q⟩
end
abbrev z2w (sp:Sp) (dvs:List V) (E:XK) (t:TA):TE:=fun σ H Q=>t σ H fun vs H1=>sp (vs++dvs) H1 Q E
def Jg (K:kn) (fd:FuncData) (ps:List Str) (ds:List Value):Prop:=
 ∀(s:Shared) (us:List Value),K.In s.heap→(us++ds).length=ps.length→BindsTo s fd ⟨us,[]⟩ (ps.zip (us++ds))
theorem Jg.all {K:kn} {fd:FuncData} {ps:List Str} (h:∀us:List Value,us.length=ps.length→bindArgs fd ⟨us,[]⟩=pure (ps.zip us)):Jg K fd ps []:=fun s us _ hl=>by
 rw [kO] at hl ⊢
 exact .of_eq (h us hl)
def z53 (CX:CXT) (X:Cx) (E:XK):Prop:=∀(pins:List (Addr × Obj)) (σ:St) (H:Hp) (s:Shared) (e:Value) (s':Shared),Inv X pins σ H s→CX X.stack H s E e s'→X.xe e s'
section
variable {X:Cx} {CX:CXT} {k:Nat} {f C:Addr} {fd:FuncData} {ps:List Str} {sp:Sp} {dvs:List V} {ds:List Value} {E:XK} {x m:Str} {p pos apos:Pos} {e o:Expr} {es:List Expr} {ta:TE} {t:TA}
theorem z6w {pins:List (Addr × Obj)} {σ:St} {H:Hp} {s:Shared} {Q:VK} {us:List Value} {vs:List V} (F:FnOk X.prog X.w X.K X.mg X.base CX k f fd ps sp) (hr:Room k X.A) (hb:Jg X.K fd ps ds) (hd:Vals dvs ds) (hx:z53 CX X E)
  (I:Inv X pins σ H s) (r:Vals vs us) (h:sp (vs++dvs) H Q E):wpAny (model X.prog X.w) X.A (call (.ref f) us) (EP X pins σ Q) X.xe s:=by
 have r2:Vals (vs++dvs) (us++ds):=r.append hd
 have hl:(us++ds).length=ps.length:=by rw [←r2.length];exact F.len _ _ _ _ h
 refine wpAny_call (codeAny_mono (F.run X.A X.stack s H ⟨us,[]⟩ (us++ds) (vs++dvs) Q E hr I.env0 (hb s us I.kIn hl) r2 h) fun r s' hq=>?_)
 cases r with
 | error e=>exact hx pins σ H s e s' I hq
 | ok fl=>
  cases fl with
  | ret u=>exact I.after hq
  | next=>exact False.elim hq
  | brk=>exact False.elim hq
  | cont=>exact False.elim hq
theorem z3V (F:FnOk X.prog X.w X.K X.mg X.base CX k f fd ps sp) (hr:Room k X.A) (hg:Gl X x) (hm:X.mg x=some (.ref f)) (hk:PySem.W.keepIn X.K (.ref f)=true) (hb:Jg X.K fd ps ds) (hd:Vals dvs ds) (hx:z53 CX X E)
  (ha:PA X (e :: es) t) (hdb:autoParam ((x == ("__debug__":Str))=false) aR._auto_2) (he:autoParam (starEach (e :: es) X.env=(false,eval e X.env) :: starEach es X.env) aR._auto_1) (hpl:autoParam ((backTo pos (starEach es X.env)).any (·.1)=false) aR._auto_1):
  PE X (.Call (.Name x p) (e :: es) [] pos) (z2w sp dvs E t):=by
 intro pins s σ H Q I h
 refine wpAny_Call_Name_kw (Q4 I hg hm ?_ hdb)
 refine PySem.W.callWith_K (h₀:=X.base) I.ok.mod.kin hk (thn (ha pos pins s σ H _ I h) fun us s1 ⟨vs,H1,I1,r,q⟩=>⟨I1.kIn,?_⟩) he hpl
 exact z6w F hr hb hd hx I1 r q
end
section
variable {X:Cx} {CX:CXT} {k:Nat} {f C:Addr} {fd:FuncData} {ps ks:List Str} {sp:Sp} {E:XK} {x m:Str} {p pos apos kpos:Pos} {e o:Expr} {es:List Expr} {kws:List Keyword} {te ta:TE} {t tk:TA} {nm:Option Str}
variable {g:List Value→List Value→List Value} {gV:List V→List V→List V}
end
structure zn (N P:List Str) (sc:Scope):Prop where
 kind:sc.kind=.function
 co:sc.isCoroutine=false
 gen:sc.isGenerator=false
 nd:N.Nodup
 pre:N.take P.length=P
 par:∀x∈P,sc.names.lookup x=some .local∨sc.names.lookup x=some .cell
 nofree:∀y∈sc.names,y.2≠.free
theorem z10 {kindOf:Str→Option NameKind} {x:Str}:∀{binds:List (Str × Value)} {m:Str→Option Value},(∀v,(x,v)∉binds)→bindL kindOf binds m x=m x
 | [],_,_=>rfl
 | (n,v) :: r,m,h=>by
  unfold bindL
  rw [z10 fun w hw=>h w (kL _ hw)]
  split
  ·have:x≠n:=by rintro rfl;exact h v kK
   simp [this]
  ·rfl
theorem z12 {kindOf:Str→Option NameKind} {x:Str}:∀{binds:List (Str × Value)} {m:Str→Option Value},(∀v,(x,v)∉binds)→bindC kindOf binds m x=m x
 | [],_,_=>rfl
 | (n,v) :: r,m,h=>by
  unfold bindC
  rw [z12 fun w hw=>h w (kL _ hw)]
  split
  ·rfl
  ·have:x≠n:=by rintro rfl;exact h v kK
   simp [this]
theorem z11 {kindOf:Str→Option NameKind} {x:Str} {v:Value}:∀{P:List Str} {vs:List Value} {i:Nat} {m:Str→Option Value},P.Nodup→P[i]?=some x→vs[i]?=some v→kindOf x=some .local→
  bindL kindOf (P.zip vs) m x=some v
 | [],_,_,_,_,h,_,_=>by simp at h
 | _ :: _,[],_,_,_,_,h,_=>by simp at h
 | p :: P,w :: vs,0,m,nd,h1,h2,hk=>by
  simp at h1 h2;subst h1;subst h2
  show bindL kindOf ((p,w) :: P.zip vs) m p=_
  unfold bindL
  rw [z10 fun v hv=>(List.nodup_cons.mp nd).1 (List.of_mem_zip hv).1,kq hk]
  simp
 | p :: P,w :: vs,i+1,m,nd,h1,h2,hk=>by
  show bindL kindOf ((p,w) :: P.zip vs) m x=_
  unfold bindL
  exact z11 (i:=i) (List.nodup_cons.mp nd).2 (by simpa using h1) (by simpa using h2) hk
theorem z13 {kindOf:Str→Option NameKind} {x:Str} {v:Value}:∀{P:List Str} {vs:List Value} {i:Nat} {m:Str→Option Value},P.Nodup→P[i]?=some x→vs[i]?=some v→kindOf x≠some .local→
  bindC kindOf (P.zip vs) m x=some v
 | [],_,_,_,_,h,_,_=>by simp at h
 | _ :: _,[],_,_,_,_,h,_=>by simp at h
 | p :: P,w :: vs,0,m,nd,h1,h2,hk=>by
  simp at h1 h2;subst h1;subst h2
  show bindC kindOf ((p,w) :: P.zip vs) m p=_
  unfold bindC
  rw [z12 fun v hv=>(List.nodup_cons.mp nd).1 (List.of_mem_zip hv).1,ko hk]
  simp
 | p :: P,w :: vs,i+1,m,nd,h1,h2,hk=>by
  show bindC kindOf ((p,w) :: P.zip vs) m x=_
  unfold bindC
  exact z13 (i:=i) (List.nodup_cons.mp nd).2 (by simpa using h1) (by simpa using h2) hk
noncomputable def Zo (N:List Str) (vs:List V):St:=vs.map some++List.replicate (N.length - vs.length) none
noncomputable def cxOf (CX:CXT) (P:Program) (w:World) (K:kn) (mg:Str→Option Value) (base:Heap) (N:List Str) (qual:Str) (scope:Scope) (f:Addr) (cd:Value) (A:Around) (outer:List Env) (s:Shared) (H:Hp) (E:XK):Cx where
 prog:=P
 w:=w
 K:=K
 mg:=mg
 base:=base
 A:=A.deeper (envOfC qual scope s.heap.objs.size f cd)
 N:=N
 s₀:=s
 H₀:=H
 env:=envOfC qual scope s.heap.objs.size f cd
 outer:=outer
 stack:=envOfC qual scope s.heap.objs.size f cd :: outer
 ex:=[]
 calm:=true
 fn:=fun _=>true
 pn:=[]
 xe:=fun e s'=>wpAny (model P w) (A.deeper (envOfC qual scope s.heap.objs.size f cd)) (leaving (envOfC qual scope s.heap.objs.size f cd) e) (fun _ s''=>CX outer H s E e s'') (fun e' s''=>CX outer H s E e' s'') s'
theorem z2m {sc:Scope} {n:Nat} {x:Str} (h:sc.names.lookup x=some .cell):∃c,(cellsFrom n sc.names []).lookup x=some c:=by
 have q:=PySem.W.cellsFrom_some sc.names n [] (.inl h)
 exact Option.isSome_iff_exists.mp q
theorem z4l {CX:CXT} {P:Program} {w:World} {K:kn} {mg:Str→Option Value} {base:Heap} {N ps:List Str} {qual:Str} {scope:Scope} {f:Addr} {cd:Value} {A:Around} {outer:List Env} {s s1:Shared} {H:Hp} {E:XK} {us:List Value} {vs:List V}
  (S:zn N ps scope) (hd:A.handled=none) (e0:Env0 P w K mg base A outer s H) (hl:vs.length=ps.length) (r:Vals vs us)
  (x:InCallC s s.heap.objs.size (bindL (envOfC qual scope s.heap.objs.size f cd).kindOf (ps.zip us) fun _=>none) (cellsFrom (s.heap.objs.size+1) scope.names []) (bindC (envOfC qual scope s.heap.objs.size f cd).kindOf (ps.zip us) fun _=>none) s1):
  Inv (cxOf CX P w K mg base N qual scope f cd A outer s H E) [] (Zo N vs) H s1:=by
 have hpl:ps.length≤N.length:=by have:=congrArg List.length S.pre;rw [List.length_take] at this;lia
 obtain ⟨h1,tk,rfl,hk⟩:=x.done
 have noA:∀b:Addr,b∉(cxOf CX P w K mg base N qual scope f cd A outer s H E).ex:=fun b z=>absurd (show b∈([]:List Addr) from z) (by simp)
 refine ⟨⟨e0.mod,S.kind,rfl,rfl,kc _,fun y z c h1 h2=>?_,fun y hy=>?_,fun y c _ h=>?_,fun _=>hd,Around.frames_deeper e0.frames,.inr ⟨rfl,rfl⟩,fun b z=>absurd z (noA b),e0.bs,e0.bsz,fun b _ _=>noA b,fun b z=>absurd z (noA b),e0.funs,e0.frf⟩,
  rfl,e0.bare,Un.kept hk,⟨_,x.toInCall.ns,fun i y v h1 h2 h3=>?_⟩,fun y c h=>⟨_,x.cell y c h⟩,e0.hok.fresh (kc _),fun y c h=>?_,fun p hp=>absurd (show p∈([]:List (Addr × Obj)) from hp) (by simp),e0.hok.kept hk,?_⟩
 ·exact name_of_addr x.apart (PySem.mem_of_lookup h1) (PySem.mem_of_lookup h2)
 ·have hy:scope.names.lookup y=some .cell∨scope.names.lookup y=some .free:=hy
  rcases hy with hy | hy
  ·exact z2m hy
  ·exact absurd rfl (S.nofree _ (PySem.mem_of_lookup hy))
 ·exact Nat.le_of_lt (x.above y c (PySem.mem_of_lookup h))
 ·have hi:i < vs.length:=by
   unfold Zo at h2
   by_cases hi:i < vs.length
   ·exact hi
   ·rw [yb (by simpa using hi)] at h2
    rw [List.getElem?_replicate] at h2
    split at h2 <;> cases h2
  have ha:vs[i]?=some v:=by
   unfold Zo at h2
   rw [ya (by simpa using hi),List.getElem?_map] at h2
   cases e:vs[i]? with
   | none=>rw [e] at h2;cases h2
   | some a=>rw [e] at h2;cases h2;rfl
  obtain ⟨u,hu,rv⟩:=r.get ha
  have hp:ps[i]?=some y:=by
   rw [←S.pre,List.getElem?_take_of_lt (by lia)];exact h1
  have ndP:ps.Nodup:=by rw [←S.pre];exact S.nd.sublist (List.take_sublist _ _)
  refine ⟨u,rv,?_⟩
  rcases S.par y (kz hp) with k | k
  ·exact .inl ⟨k,z11 ndP hp hu k⟩
  ·obtain ⟨c,e⟩:=z2m (n:=s.heap.objs.size+1) k
   refine .inr ⟨.inl k,c,e,?_⟩
   have q:=x.cell y c e
   rw [z13 ndP hp hu (by show scope.names.lookup y≠_;rw [k];decide)] at q
   exact q
 ·exact e0.hok.fresh (Nat.le_of_lt (x.above y c (PySem.mem_of_lookup h)))
 ·unfold Zo
  show _=N.length
  rw [kh,kg,List.length_replicate]
  lia
theorem z8N {CX:CXT} {P:Program} {w:World} {K:kn} {mg:Str→Option Value} {base:Heap} {k:Nat} {f:Addr} {name qual:Str} {params:Arguments} {body:List Stmt} {scope:Scope} {dV kV doc pm cdv ct oc:Value} {an od:Option Addr}
  {osl:Array (Option Value)} {N ps:List Str} {sp:Sp} (lk:K.lookup f=some ⟨oc,od,.func (PySem.W.fnOf name qual params body scope dV kV doc pm an cdv ct),osl⟩) (hcd:PySem.W.codeIn K cdv qual=true) (S:zn N ps scope)
  (len:∀vs H Q E,sp vs H Q E→vs.length=ps.length)
  (hbody:∀(A:Around) (outer:List Env) (s:Shared) (H:Hp) (vs:List V) (Q:VK) (E:XK),Room k (A.deeper (envOfC qual scope s.heap.objs.size f cdv))→sp vs H Q E→
   ∃t,PSs (cxOf CX P w K mg base N qual scope f cdv A outer s H E) body t∧t { nx:=fun _ H'=>Q .non H',rt:=Q } (Zo N vs) H):
  FnOk P w K mg base CX (k+1) f (PySem.W.fnOf name qual params body scope dV kV doc pm an cdv ct) ps sp:=by
 refine ⟨len,fun A outer s H args us vs Q E hr e0 hb r hsp=>?_⟩
 have hl:=len _ _ _ _ hsp
 have KX:K.In s.heap:=e0.mod.kin.keeps fun b o e=>(e0.bs b o e).1
 have lim:s.heap.NoLimit:=e0.mod.nolimit.keeps fun b o e=>(e0.bs b o e).1
 have hkind:∀y∈ps.zip us,scope.names.lookup y.1=some .local∨(scope.names.lookup y.1=some .cell∧((cellsFrom (s.heap.objs.size+1) scope.names []).lookup y.1).isSome=true):=fun ⟨n,v⟩ hy=>by
  rcases S.par n (List.of_mem_zip hy).1 with q | q
  ·exact .inl q
  ·exact .inr ⟨q,PySem.W.cellsFrom_some _ _ _ (.inl q)⟩
 refine codeAny_call_function hr.depth (KX _ _ lk) rfl S.co S.gen rfl (PySem.W.codeRec_of KX hcd) (hb _ _ _ _ ?_)
 refine wpAny_newFunctionEnv_cells S.kind hkind fun env he s1 x=>?_
 subst he
 refine ⟨lim.keeps x.toInCall.keep,codeAny_func ?_⟩
 obtain ⟨t,ht,hq⟩:=hbody A outer s H vs Q E (hr.deeper _) hsp
 have I:Inv (cxOf CX P w K mg base N qual scope f cdv A outer s H E) [] (Zo N vs) H s1:=z4l S hr.hd e0 hl r x
 refine wpAny_mono (ht [] s1 (Zo N vs) H _ I hq) (fun fl s' hs=>?_) fun e s' hs=>hs
 have fin:∀{σ':St} {H':Hp} {v:V} {u:Value},Inv (cxOf CX P w K mg base N qual scope f cdv A outer s H E) [] σ' H' s'→RelV v u→Q v H'→CE outer P w H s Q u s':=
  fun {σ' H' v u} J rv q=>⟨v,H',J.os,J.bare,J.base,J.hok,rv,q⟩
 cases fl with
 | ret u=>
  obtain ⟨v,σ',H',J,rv,q⟩:=hs
  exact fin J rv q
 | next=>
  obtain ⟨σ',H',J,q⟩:=hs
  exact fin (v:=V.non) (u:=Value.none) J rfl q
 | brk=>
  obtain ⟨_,_,_,q⟩:=hs
  exact False.elim q
 | cont=>
  obtain ⟨_,_,_,q⟩:=hs
  exact False.elim q
end L2
namespace L2
open PySem PySem.Spec PyProof.Rows
section
variable {X:Cx} {x:Str} {p pos:Pos} {e:Expr} {es:List Expr} {t:TA} {id T:String} {r:List V→Hp→VK→Prop}
def tCB (r:List V→Hp→VK→Prop) (t:TA):TE:=fun σ H Q=>t σ H fun vs H1=>r vs H1 Q
theorem zw (hc:Jd X (.builtin id) r) (hg:Gl X x) (hm:X.mg x=none) (hv:bootBuiltins x=some (.builtin id)) (ha:PA X (e :: es) t) (hn:autoParam (x≠"__name__") aR._auto_2) (hdb:autoParam ((x == ("__debug__":Str))=false) aR._auto_2)
  (he:autoParam (starEach (e :: es) X.env=(false,eval e X.env) :: starEach es X.env) aR._auto_1) (hpl:autoParam ((backTo pos (starEach es X.env)).any (·.1)=false) aR._auto_1):PE X (.Call (.Name x p) (e :: es) [] pos) (tCB r t):=by
 intro pins s σ H Q I h
 refine wpAny_Call_Name_kw (z0C I hg hm hv ?_ hn hdb)
 exact PyProof.Rows.callWith_builtin1 (thn (ha pos pins s σ H _ I h) fun us s1 ⟨vs,H1,I1,r1,q1⟩=>hc pins s1 σ H1 vs us Q I1 r1 q1) he hpl
theorem z0m (hc:Jd X (.type T) r) (hg:Gl X x) (hm:X.mg x=none) (hv:bootBuiltins x=some (.type T)) (ha:PA X (e :: es) t) (hn:autoParam (x≠"__name__") aR._auto_2) (hdb:autoParam ((x == ("__debug__":Str))=false) aR._auto_2)
  (he:autoParam (starEach (e :: es) X.env=(false,eval e X.env) :: starEach es X.env) aR._auto_1) (hpl:autoParam ((backTo pos (starEach es X.env)).any (·.1)=false) aR._auto_1):PE X (.Call (.Name x p) (e :: es) [] pos) (tCB r t):=by
 intro pins s σ H Q I h
 refine wpAny_Call_Name_kw (z0C I hg hm hv ?_ hn hdb)
 exact PyProof.Rows.callWith_type1 (thn (ha pos pins s σ H _ I h) fun us s1 ⟨vs,H1,I1,r1,q1⟩=>hc pins s1 σ H1 vs us Q I1 r1 q1) he hpl
end
end L2
namespace HT
open PySem PyProof.Rows
section
open PySem.SeqAt
open PySem.AutoSeq1 (wpAny_loadPart')
open PySem.MeetsSeq PySem.MeetsSeq2 PySem.MeetsSeq3
end
section
variable {prog:Program} {w:World} {A:Around} {E:Value→Shared→Prop} {s:Shared}
theorem cat_tup {t b:Addr} {vs ws:List Value} {Q:Value→Shared→Prop} (ht:IsTup s.heap t vs.toArray) (hb:IsTup s.heap b ws.toArray) (hv:vs≠[])
  (h1:ws=[]→Q (.ref t) s) (h2:ws≠[]→Q (.ref s.heap.objs.size) { s with heap:=s.heap.push { cls:=.type "tuple",data:=.seq (vs++ws).toArray } })
  (hsz:vs.length+ws.length≤sizeLine):wpAny (model prog w) A (binaryOp .Add (.ref t) (.ref b)) Q E s:=by
 obtain ⟨⟨cls,dd,data,sl⟩,ho,hc,n,hd⟩:=id ht
 obtain ⟨⟨cls2,dd2,data2,sl2⟩,ho2,hc2,n2,hd2⟩:=id hb
 simp only at hc hd hc2 hd2
 subst hc hd hc2 hd2
 have e:vs.toArray++ws.toArray=(vs++ws).toArray:=by simp
 by_cases hw:ws=[]
 ·exact concat_meets ⟨_,ho,rfl⟩ ⟨_,ho2,rfl⟩ noFill_tuple_add seq_tuple_add PySem.F.slot_tuple_add PySem.F.entry_tuple_add (PySem.F.args_tuple_add_2 _ _)
   (tuple_addW1 t b vs.toArray ws.toArray n n2 dd dd2 sl sl2 (by simpa using hv) (by simp [hw])) ⟨ho,ho2,h1 hw⟩
 ·refine concat_meets ⟨_,ho,rfl⟩ ⟨_,ho2,rfl⟩ noFill_tuple_add seq_tuple_add PySem.F.slot_tuple_add PySem.F.entry_tuple_add (PySem.F.args_tuple_add_2 _ _)
   (tuple_addW2 t b vs.toArray ws.toArray n n2 dd dd2 sl sl2 (by simpa using hv) (by simpa using hw) (by rw [kx,kx];exact hsz)) ⟨ho,ho2,?_⟩
  rw [e]
  exact h2 hw
noncomputable def sIx (n d:Nat):Option Int→Nat
 | none=>d
 | some v=>if v < 0 then (v+(n:Int)).toNat else min v.toNat n
theorem sIx_nat (n d k:Nat):sIx n d (some (k:Int))=min k n:=by
 show (if (k:Int) < 0 then ((k:Int)+(n:Int)).toNat else min (k:Int).toNat n)=min k n
 rw [ko (by lia),kS]
theorem z8f (n d:Nat) (hd:d≤n) (o:Option Int):sIx n d o≤n:=by
 cases o with
 | none=>exact hd
 | some v=>
  show (if v < 0 then (v+(n:Int)).toNat else min v.toNat n)≤n
  by_cases hv:v < 0
  ·rw [kq hv];lia
  ·rw [ko hv];exact Nat.min_le_right _ _
theorem z4O (v:Int) (n d:Nat):(if v < 0 then max (v+(n:Int)) 0 else min v (n:Int))=((sIx n d (some v):Nat):Int):=by
 show (if v < 0 then max (v+(n:Int)) 0 else min v (n:Int))=(((if v < 0 then (v+(n:Int)).toNat else min v.toNat n):Nat):Int)
 by_cases hv:v < 0
 ·simp only [kq hv];lia
 ·simp only [ko hv];lia
theorem z3d (lo hi:Option Int) (n:Nat):Builtin.Slice.sliceAdjust lo hi 1 (n:Int)=(((sIx n 0 lo:Nat):Int),((sIx n n hi:Nat):Int)):=by
 have h1:¬((1:Int) < 0):=by lia
 unfold Builtin.Slice.sliceAdjust
 simp only [h1,if_false]
 refine Prod.ext ?_ ?_
 ·cases lo with
  | none=>rfl
  | some v=>exact z4O v n 0
 ·cases hi with
  | none=>rfl
  | some v=>exact z4O v n n
theorem z2z (i j:Nat):Builtin.Slice.slicePlaces (i:Int) (j:Int) 1=j - i:=by
 unfold Builtin.Slice.slicePlaces
 have h1:(1:Int) > 0:=by lia
 simp only [h1,if_true,Int.ediv_one]
 split <;> lia
theorem Jk {v:Value} {o:Option Int} {Q:Option Int→Shared→Prop} (p:IsPart v o) (h:Q o s):wpAny (model prog w) A (Builtin.Slice.slicePartIndex v) Q E s:=by
 cases p with
 | none=>exact slicePart_none h
 | int i t=>exact slicePart_int h
theorem Ql {sl:Addr} {vl vu:Value} {lo hi:Option Int} {n:Nat} {Q:Int × Int × Nat→Shared→Prop} (hs:s.heap.IsSliceOf sl vl vu .none) (pl:IsPart vl lo) (pu:IsPart vu hi)
  (h:Q (((sIx n 0 lo:Nat):Int),1,sIx n n hi - sIx n 0 lo) s):wpAny (model prog w) A (Builtin.Slice.sliceApplied (.ref sl) (pure (n:Int))) Q E s:=by
 obtain ⟨os,hos,hcs,hds⟩:=id hs
 unfold Builtin.Slice.sliceApplied Builtin.Slice.sliceFields
 refine wpAny_bind (wpAny_bind (wpAny_field hos hds (x:=vl) rfl (wpAny_bind (wpAny_field hos hds (x:=vu) rfl (wpAny_bind (wpAny_field hos hds (x:=.none) rfl (wpAny_pure ?_)))))))
 refine wpAny_bind (slicePart_none ?_)
 show wpAny _ _ (if ((1:Int) == 0)=true then _ else _) _ _ s
 rw [ko (by decide)]
 refine wpAny_bind (Jk pl (wpAny_bind (Jk pu (wpAny_bind (wpAny_pure ?_)))))
 show wpAny _ _ (match Builtin.Slice.sliceAdjust lo hi 1 (n:Int) with | (lo,hi)=>pure (lo,(1:Int),Builtin.Slice.slicePlaces lo hi 1)) _ _ s
 rw [z3d lo hi n]
 show wpAny _ _ (pure (((sIx n 0 lo:Nat):Int),(1:Int),Builtin.Slice.slicePlaces ((sIx n 0 lo:Nat):Int) ((sIx n n hi:Nat):Int) 1)) _ _ s
 rw [z2z]
 exact wpAny_pure h
theorem z5i (xs:Array Value) (i k:Nat):((List.range k).filterMap fun (m:Nat)=>xs[((i:Int)+(m:Int) * 1).toNat]?).toArray=((xs.toList.drop i).take k).toArray:=by
 have e:(fun (m:Nat)=>xs[((i:Int)+(m:Int) * 1).toNat]?)=fun m=>xs[i+m]?:=by
  funext m
  have:((i:Int)+(m:Int) * 1).toNat=i+m:=by lia
  rw [this]
 rw [e]
 have:=pick_run xs i k
 rw [List.filterMap_map] at this
 have e2:((fun x=>xs[x]?) ∘ fun x=>i+x)=fun m=>xs[i+m]?:=rfl
 rw [e2] at this
 rw [this]
theorem getItem_tuple_cut {t sl:Addr} {items:Array Value} {vl vu:Value} {lo hi:Option Int} {Q:Value→Shared→Prop} (ht:IsTup s.heap t items) (hs:s.heap.IsSliceOf sl vl vu .none) (pl:IsPart vl lo) (pu:IsPart vu hi)
  (hw:¬(sIx items.size 0 lo=0∧sIx items.size items.size hi=items.size))
  (h:Q (.ref s.heap.objs.size) { s with heap:=s.heap.push { cls:=.type "tuple",data:=.seq ((items.toList.drop (sIx items.size 0 lo)).take (sIx items.size items.size hi - sIx items.size 0 lo)).toArray } })
  (hsz:items.size≤sizeLine):wpAny (model prog w) A (getItem (.ref t) (.ref sl)) Q E s:=by
 have htake:sizeOk (.seq ((items.toList.drop (sIx items.size 0 lo)).take (sIx items.size items.size hi - sIx items.size 0 lo)).toArray):=by
  show ((items.toList.drop (sIx items.size 0 lo)).take (sIx items.size items.size hi - sIx items.size 0 lo)).toArray.size≤sizeLine
  rw [kx,List.length_take,List.length_drop,Array.length_toList]
  lia
 have hj:sIx items.size items.size hi≤items.size:=z8f _ _ (kc _) hi
 obtain ⟨os,hos,hcs,hds⟩:=id hs
 have hTs:s.TypeIs (.ref sl) "slice":=⟨os,hos,hcs⟩
 unfold getItem
 try with_reducible refine wpAny_holding ?_
 first | refine wpAny_bind (wpAny_pure ?_) | skip
 refine wpAny_bind (wpAny_sequenceKey ht.typeIs (by decide) ?_)
 refine wpAny_bind (wpAny_callSpecial?_slot (name:=Str.ofString "__getitem__") ht.typeIs PyProof.Rows.slot_tuple_getitem
  (wpAny_call_entry PyProof.Rows.slot_tuple_getitem ht.typeIs entry_tuple_getitem ?_ (args_tuple_getitem _ _)))
 show wpAny _ _ (Builtin.Tuple.tupleItemsOf (.ref t) >>= _) _ _ s
 refine wpAny_bind (tupleItemsOf_ ht ?_)
 refine wpAny_bind (wpAny_typeOf hTs ?_)
 rw [kq (by decide)]
 refine wpAny_bind (Ql hs pl pu ?_)
 have hno:¬((((sIx items.size 0 lo:Nat):Int) == 0&&(1:Int) == 1&&(sIx items.size items.size hi - sIx items.size 0 lo) == items.size)=true):=by
  intro q
  rw [kX,kX] at q
  have q1:((sIx items.size 0 lo:Nat):Int)=0:=eq_of_beq q.1.1
  have q2:sIx items.size items.size hi - sIx items.size 0 lo=items.size:=eq_of_beq q.2
  exact hw ⟨by lia,by lia⟩
 show wpAny _ _ (if (((sIx items.size 0 lo:Nat):Int) == 0&&(1:Int) == 1&&(sIx items.size items.size hi - sIx items.size 0 lo) == items.size)=true then _ else _) _ _ s
 rw [ko hno,z5i]
 first
  | exact wpAny_bind (m:=Builtin.Tuple.tupleExact _) (wpAny_newObj_type (wpAny_pure ⟨_,rfl,wpAny_pure h⟩) htake)
  | exact wpAny_bind (m:=Builtin.Tuple.tupleExact _) (wpAny_newObj_type (wpAny_bind (wpAny_pure (wpAny_pure ⟨_,rfl,wpAny_pure h⟩))) htake)
  | exact wpAny_bind (wpAny_bind (m:=Builtin.Tuple.tupleExact _) (wpAny_newObj_type (wpAny_pure (wpAny_pure ⟨_,rfl,wpAny_pure h⟩)) htake))
  | exact wpAny_bind (wpAny_bind (m:=Builtin.Tuple.tupleExact _) (wpAny_newObj_type (wpAny_pure ⟨_,rfl,wpAny_pure h⟩) htake))
end
end HT
namespace L2
open PySem PySem.Spec PyProof.Rows
abbrev TO:=St→Hp→(Option Int→Hp→Prop)→Prop
def PO (X:Cx) (e:Option Expr) (t:TO):Prop:=
 ∀(pins:List (Addr × Obj)) (s:Shared) (σ:St) (H:Hp) (Q:Option Int→Hp→Prop),Inv X pins σ H s→t σ H Q→
  wpAny (model X.prog X.w) X.A (evalPart e X.env) (fun u s'=>∃o H',Inv X pins σ H' s'∧IsPart u o∧Q o H') X.xe s
def z6R:TO:=fun _ H Q=>Q none H
def z94 (t:TE):TO:=fun σ H Q=>t σ H fun x H1=>∃i,x=.int i∧Q (some i) H1
section
variable {X:Cx} {e:Expr} {te:TE} {lo hi:Option Expr} {tl th:TO} {pos p2:Pos}
theorem z1n:PO X none z6R:=by
 intro pins s σ H Q I h
 rw [evalPart_none]
 exact wpAny_pure ⟨none,H,I,.none,h⟩
theorem Zr (h:PE X e te):PO X (some e) (z94 te):=by
 intro pins s σ H Q I hw
 rw [evalPart_some]
 refine thn (h pins s σ H _ I hw) fun u s1 zz=>?_
 obtain ⟨x,H1,I1,r1,q1⟩:=zz
 obtain ⟨i,rfl,q⟩:=q1
 obtain ⟨t,rfl⟩:=r1
 exact ⟨some i,H1,I1,.int i t,q⟩
def SlR (X:Cx) (r:V→Option Int→Option Int→Hp→VK→Prop):Prop:=
 ∀(pins:List (Addr × Obj)) (s:Shared) (σ:St) (H:Hp) (x:V) (v vl vu:Value) (lo hi:Option Int) (sl:Addr) (Q:VK),Inv X pins σ H s→RelV x v→s.heap.IsSliceOf sl vl vu .none→IsPart vl lo→IsPart vu hi→r x lo hi H Q→
  ∃T id,typeLookup (.type T) "__getitem__"=pure (some (.builtin id))∧s.TypeIs v T∧wpAny (model X.prog X.w) X.A (getItem v (.ref sl)) (EP X pins σ Q) X.xe s
def tSl (r:V→Option Int→Option Int→Hp→VK→Prop) (te:TE) (tl th:TO):TE:=fun σ H Q=>te σ H fun x H1=>tl σ H1 fun l H2=>th σ H2 fun u H3=>r x l u H3 Q
theorem ZE {r:V→Option Int→Option Int→Hp→VK→Prop} (hr:SlR X r) (he:PE X e te) (hl:PO X lo tl) (hu:PO X hi th):PE X (.Subscript e (.Slice lo hi none p2) pos) (tSl r te tl th):=by
 intro pins s σ H Q I h
 refine Subscript_ (thn (he pins s σ H _ I h) fun v s1 zz=>?_)
 obtain ⟨x,H1,I1,r1,q1⟩:=zz
 refine wpAny_Slice (thn (hl pins s1 σ H1 _ I1 q1) fun vl s2 ⟨l,H2,I2,pl,q2⟩=>thn (hu pins s2 σ H2 _ I2 q2) fun vu s3 zz=>?_)
 obtain ⟨u,H3,I3,pu,q3⟩:=zz
 rw [evalPart_none]
 refine wpAny_pure ?_
 have I4:Inv X pins σ H3 { s3 with heap:=s3.heap.push { cls:=.type "slice",data:=.fields #[vl,vu,.none] } }:=I3.kept (t':=s3.toks) fun b ob q=>Heap.get?_push_of_some _ q
 obtain ⟨T,id,hT,ht,hg⟩:=hr pins { s3 with heap:=s3.heap.push { cls:=.type "slice",data:=.fields #[vl,vu,.none] } } σ H3 x v vl vu l u s3.heap.objs.size Q I4 r1 (Heap.IsSliceOf.new ..) pl pu q3
 show wpAny (model X.prog X.w) X.A (subscriptTail e (.Slice lo hi none p2) v (.ref s3.heap.objs.size)) (EP X pins σ Q) X.xe { s3 with heap:=s3.heap.push { cls:=.type "slice",data:=.fields #[vl,vu,.none] } }
 exact tail_any (ops:=[.ref s3.heap.objs.size,v]) ht hT hg (by with_unfolding_all rfl)
noncomputable def cutV (xs:List V) (lo hi:Option Int):List V:=(xs.drop (HT.sIx xs.length 0 lo)).take (HT.sIx xs.length xs.length hi - HT.sIx xs.length 0 lo)
theorem J7 (xs:List V) (lo hi:Option Int):(cutV xs lo hi).length≤xs.length:=by
 unfold cutV
 rw [List.length_take,List.length_drop]
 lia
def rSlT (K:kn):V→Option Int→Option Int→Hp→VK→Prop:=fun x lo hi H Q=>∃a xs,x=.ref a∧SqT K H a xs∧
 ¬(HT.sIx xs.length 0 lo=0∧HT.sIx xs.length xs.length hi=xs.length)∧∀p,H p=none→Q (.ref p) (upd H p (.tup (cutV xs lo hi)))
theorem z8c:SlR X (rSlT X.K):=by
 intro pins s σ H x v vl vu lo hi sl Q I rx hs pl pu h
 obtain ⟨a,xs,rfl,hx,hw,q⟩:=h
 cases rx
 obtain ⟨its,r,ht,hz⟩:=I.tuple hx
 have hlen:its.toArray.size=xs.length:=by rw [kx];exact r.length.symm
 refine ⟨"tuple",_,PyProof.Rows.slot_tuple_getitem.lookup,ht.typeIs,?_⟩
 refine HT.getItem_tuple_cut ht hs pl pu (by rw [hlen];exact hw) ?_ (by rw [hlen];exact hz)
 rw [hlen]
 refine ⟨.ref s.heap.objs.size,_,I.laid (t':=s.toks) (o:=.tup (cutV xs lo hi)) (fun b ob q=>Heap.get?_push_of_some _ q) (kc _) ?_,rfl,q _ (I.hok.fresh (kc _))⟩
 exact ⟨km (J7 xs lo hi) hz,_,(r.drop (HT.sIx xs.length 0 lo)).take (HT.sIx xs.length xs.length hi - HT.sIx xs.length 0 lo),IsTup.new _ _⟩
def z9n (K:kn):R2:=fun x y H Q=>∃a b xs ys,x=.ref a∧y=.ref b∧SqT K H a xs∧SqT K H b ys∧xs≠[]∧xs.length+ys.length≤sizeLine∧
 (ys=[]→Q (.ref a) H)∧(ys≠[]→∀p,H p=none→Q (.ref p) (upd H p (.tup (xs++ys))))
theorem Vals.nil_iff {xs:List V} {us:List Value} (r:Vals xs us):us=[]↔xs=[]:=by
 cases r with
 | nil=>simp
 | cons _ _=>simp
theorem z41:OpR X (binaryOp .Add) (z9n X.K):=by
 intro pins s σ H x y v u Q I rx ry h
 obtain ⟨a,b,xs,ys,rfl,rfl,ha,hb,hx,hz,q1,q2⟩:=h
 cases rx
 cases ry
 obtain ⟨its,r1,p1,_⟩:=I.tuple ha
 obtain ⟨its2,r2,p2,_⟩:=I.tuple hb
 refine HT.cat_tup p1 p2 (fun z=>hx (r1.nil_iff.mp z)) (fun z=>⟨.ref a,H,I,rfl,q1 (r2.nil_iff.mp z)⟩) (fun z=>?_) (by rw [←r1.length,←r2.length];exact hz)
 refine ⟨.ref s.heap.objs.size,_,I.laid (t':=s.toks) (o:=.tup (xs++ys)) (fun b ob q=>Heap.get?_push_of_some _ q) (kc _) ?_,rfl,q2 (fun w=>z (r2.nil_iff.mpr w)) _ (I.hok.fresh (kc _))⟩
 exact ⟨by rw [kh];exact hz,_,r1.append r2,IsTup.new _ _⟩
end
end L2
namespace L2
open PySem PySem.Spec PyProof.Rows
noncomputable def ixN (n:Nat) (i:Int):Option Nat:=if 0≤i then (if i < n then some i.toNat else none) else if -(n:Int)≤i then some (i+n).toNat else none
noncomputable def atI {α:Type} (xs:List α) (i:Int):Option α:=(ixN xs.length i).bind fun j=>xs[j]?
theorem z4j {n:Nat} {i:Int} {j:Nat} (h:ixN n i=some j):seqIndex? i n=some j∧j < n∧-(n:Int)≤i∧i < n:=by
 unfold ixN at h
 by_cases h0:0≤i
 ·rw [kq h0] at h
  by_cases h1:i < n
  ·rw [kq h1] at h
   have e:i.toNat=j:=kr h
   exact ⟨by rw [seqIndex_of h0 h1,e],by lia,by lia,h1⟩
  ·rw [ko h1] at h;cases h
 ·rw [ko h0] at h
  by_cases h1: -(n:Int)≤i
  ·rw [kq h1] at h
   have e:(i+n).toNat=j:=kr h
   exact ⟨by rw [seqIndex_neg (by lia) h1,e],by lia,h1,by lia⟩
  ·rw [ko h1] at h;cases h
theorem z50 {α:Type} {xs:List α} {i:Int} {v:α} (h:atI xs i=some v):∃j,seqIndex? i xs.length=some j∧xs[j]?=some v∧j < xs.length∧-(xs.length:Int)≤i∧i < xs.length:=by
 unfold atI at h
 cases e:ixN xs.length i with
 | none=>rw [e] at h;cases h
 | some j=>
  rw [e] at h
  obtain ⟨h1,h2,h3,h4⟩:=z4j e
  exact ⟨j,h1,h,h2,h3,h4⟩
theorem zi {α:Type} {xs:List α} {j:Nat} {v:α} (h:xs[j]?=some v):atI xs (j:Int)=some v:=by
 have hj:j < xs.length:=(kd.mp h).1
 have e:ixN xs.length (j:Int)=some j:=by
  unfold ixN
  rw [kq (by lia),kq (by lia)];simp
 unfold atI;rw [e];exact h
theorem z2r {α:Type} (xs:List α) (v:α):atI (xs++[v]) (-1)=some v:=by
 have hl:(xs++[v]).length=xs.length+1:=by simp
 have e:ixN (xs++[v]).length (-1)=some xs.length:=by
  unfold ixN
  rw [hl,ko (by decide),kq (by lia)]
  congr 1
  lia
 unfold atI
 rw [e]
 show (xs++[v])[xs.length]?=some v
 simp
def z7R (b:Expr):Prop:=∀o i,subscripted b false o i=operate [o,i] (getItem o i)
def IxR (X:Cx) (r:R2):Prop:=
 ∀(value slice:Expr) (pins:List (Addr × Obj)) (s:Shared) (σ:St) (H:Hp) (x y:V) (v u:Value) (Q:VK),Inv X pins σ H s→RelV x v→RelV y u→r x y H Q→
  subscripted slice false v u=operate [v,u] (getItem v u)→wpAny (model X.prog X.w) X.A (subscriptTail value slice v u) (EP X pins σ Q) X.xe s
def MtR (X:Cx) (id:String) (r:V→List V→Hp→VK→Prop):Prop:=
 ∀(pins:List (Addr × Obj)) (s:Shared) (σ:St) (H:Hp) (x:V) (xs:List V) (v:Value) (us:List Value) (Q:VK),Inv X pins σ H s→RelV x v→Vals xs us→r x xs H Q→
  wpAny (model X.prog X.w) X.A (call (.builtin id) (v :: us)) (EP X pins σ Q) X.xe s
section
variable {X:Cx} {a b:Expr} {ta tb:TE} {pos:Pos}
theorem zx {r:R2} (hr:IxR X r) (ha:PE X a ta) (hb:PE X b tb) (hs:z7R b):PE X (.Subscript a b pos) (tOp r ta tb):=by
 intro pins s σ H Q I h
 exact Subscript_ (binT ha hb I h fun v u s2 x y H2 I2 rx ry q=>hr a b pins s2 σ H2 x y v u Q I2 rx ry q (hs _ _))
def rIxL (K:kn):R2:=fun x y H Q=>∃p xs i v,x=.ref p∧y=.int i∧SqL K H p xs∧atI xs i=some v∧Q v H
def rIxT (K:kn):R2:=fun x y H Q=>∃p xs i v,x=.ref p∧y=.int i∧SqT K H p xs∧atI xs i=some v∧Q v H
theorem zr:IxR X (rIxL X.K):=by
 intro value slice pins s σ H x y v u Q I rx ry h hs
 obtain ⟨p,xs,i,z,rfl,rfl,hq,he,q⟩:=h
 cases rx
 obtain ⟨t,rfl⟩:=ry
 obtain ⟨its,r,pl,hz⟩:=I.list hq
 obtain ⟨j,h1,h2,h3,h4,h5⟩:=z50 he
 obtain ⟨w,ew,rw'⟩:=r.get h2
 have hl:=r.length
 have hn:=J1
 have fin:EP X pins σ Q w s:=⟨z,H,I,rw',q⟩
 by_cases h0:0≤i
 ·have hj:i.toNat=j:=by
   rw [seqIndex_of h0 h5] at h1
   exact kr h1
  exact item_listR pl.isList h0 (by lia) (by rw [hj];simpa using ew) fin hs
 ·have hj:(i+(its.toArray.size:Int)).toNat=j:=by
   rw [seqIndex_neg (by lia) h4] at h1
   rw [kx,←hl]
   exact kr h1
  exact subscriptTail_builtinR (x:=w) pl.isList.typeIs slot_list_getitem.lookup
   (wpAny_getItem_list_neg (Q:=fun r s'=>r=w∧EP X pins σ Q r s') pl.isList (by lia) (by rw [kx] <;> lia) (by lia) (by rw [hj];simpa using ew) ⟨rfl,fin⟩) hs
theorem zS:IxR X (rIxT X.K):=by
 intro value slice pins s σ H x y v u Q I rx ry h hs
 obtain ⟨p,xs,i,z,rfl,rfl,hq,he,q⟩:=h
 cases rx
 obtain ⟨t,rfl⟩:=ry
 obtain ⟨its,r,pl,hz⟩:=I.tuple hq
 obtain ⟨j,h1,h2,h3,h4,h5⟩:=z50 he
 obtain ⟨w,ew,rw'⟩:=r.get h2
 have hl:=r.length
 have hn:=J1
 have fin:EP X pins σ Q w s:=⟨z,H,I,rw',q⟩
 exact subscriptTail_builtinR (x:=w) pl.typeIs slot_tuple_getitem.lookup
  (getItem_tuple (j:=j) (Q:=fun r s'=>r=w∧EP X pins σ Q r s') pl (by lia) (by lia) (by rw [kx,←hl];exact h1) (by simpa using ew) ⟨rfl,fin⟩) hs
theorem z2I (its:List Value) (n j:Nat) (u:Value):Obj.mapSeq (·.setIfInBounds j u) { cls:=.type "list",data:=.seq its.toArray n }={ cls:=.type "list",data:=.seq (its.set j u).toArray n }:=by
 simp [Obj.mapSeq]
theorem Inv.lst {pins:List (Addr × Obj)} {σ:St} {H:Hp} {s:Shared} {p:Addr} {xs:List V} (I:Inv X pins σ H s) (h:H p=some (.lst xs)):
  ∃(its:List Value) (n:Nat),Vals xs its∧s.heap.get? p=some { cls:=.type "list",data:=.seq its.toArray n }∧xs.length≤sizeLine:=by
 obtain ⟨z,its,n,r,e⟩:=I.hok p _ h
 exact ⟨its,n,r,e,z⟩
theorem Inv.lstUpd {pins:List (Addr × Obj)} {σ:St} {H:Hp} {s:Shared} {p:Addr} {xs ys:List V} {its its':List Value} {n n':Nat} {f:Obj→Obj} (I:Inv X pins σ H s) (h:H p=some (.lst xs))
  (ho:s.heap.get? p=some { cls:=.type "list",data:=.seq its.toArray n }) (hf:f { cls:=.type "list",data:=.seq its.toArray n }={ cls:=.type "list",data:=.seq its'.toArray n' }) (r:Vals ys its') (hz:ys.length≤sizeLine) (t:Nat):
  Inv X pins σ (upd H p (.lst ys)) { s with heap:=s.heap.update p f,toks:=t }:=by
 have e:(s.heap.update p f).get? p=some { cls:=.type "list",data:=.seq its'.toArray n' }:=by
  rw [Heap.get?_update_self f ho (by rw [hf] <;> rfl),hf]
 refine I.write (x:=p) (e:=p) (by rw [h];trivial) (.inl rfl) (fun b u hb q=>(Heap.get?_update_other _ _ (Ne.symm hb)).trans q) ⟨_,e⟩ ?_
 exact ⟨hz,its',n',r,e⟩
def z9l:V→V→V→Hp→(Hp→Prop)→Prop:=fun o i v H Q=>∃p xs k j,o=.ref p∧i=.int k∧H p=some (.lst xs)∧ixN xs.length k=some j∧Q (upd H p (.lst (xs.set j v)))
theorem Qv:PSet X z9l:=by
 intro pins s σ H o i v ov iv u Q I ro ri rv h
 obtain ⟨p,xs,k,j,rfl,rfl,hp,hj,q⟩:=h
 cases ro
 obtain ⟨t,rfl⟩:=ri
 obtain ⟨its,n,r,ho,hz⟩:=I.lst hp
 obtain ⟨h1,h2,h3,h4⟩:=z4j hj
 have hl:=r.length
 have hn:=J1
 have I':Inv X pins σ (upd H p (.lst (xs.set j v))) { s with heap:=s.heap.update p (Obj.mapSeq (·.setIfInBounds j u)) }:=
  I.lstUpd hp ho (z2I its n j u) (r.set rv j) (by rw [List.length_set];exact hz) s.toks
 by_cases h0:0≤k
 ·have hk:k.toNat=j:=by
   rw [seqIndex_of h0 h4] at h1
   exact kr h1
  exact PySem.W.ki_setAt ho h0 (by lia) (by rw [kx,←hl];exact h4) (by rw [hk];exact ⟨_,I',q⟩)
 ·have hk:(k+(its.toArray.size:Int)).toNat=j:=by
   rw [seqIndex_neg (by lia) h3] at h1
   rw [kx,←hl]
   exact kr h1
  exact PySem.W.ki_setBack ho (by lia) (by rw [kx,←hl];exact h3) (by lia) (by rw [hk];exact ⟨_,I',q⟩)
theorem z0f (lo hi:Option Int) (n:Nat):(sliceBounds lo hi none n).1=((HT.sIx n 0 lo:Nat):Int)∧(sliceBounds lo hi none n).2.1=((HT.sIx n n hi:Nat):Int)∧(sliceBounds lo hi none n).2.2=1:=by
 refine ⟨?_,?_,rfl⟩
 ·cases lo with
  | none=>simp [sliceBounds,HT.sIx]
  | some i=>
   simp only [sliceBounds,HT.sIx,Option.getD_none,show (1:Int) > 0 by decide,if_true]
   by_cases h:i < 0
   ·simp only [h,if_true] <;> lia
   ·simp only [h,if_false] <;> lia
 ·cases hi with
  | none=>simp [sliceBounds,HT.sIx]
  | some i=>
   simp only [sliceBounds,HT.sIx,Option.getD_none,show (1:Int) > 0 by decide,if_true]
   by_cases h:i < 0
   ·simp only [h,if_true] <;> lia
   ·simp only [h,if_false] <;> lia
theorem JB (its:List Value) (lo hi:Option Int):slicePick its.toArray lo hi none=((its.drop (HT.sIx its.length 0 lo)).take (HT.sIx its.length its.length hi - HT.sIx its.length 0 lo)).toArray:=by
 obtain ⟨h1,h2,h3⟩:=z0f lo hi its.toArray.size
 unfold slicePick
 rw [h1,h2,h3]
 simp only [sliceRange_one,pick_run,kx] <;> rfl
def rSlL (K:kn):V→Option Int→Option Int→Hp→VK→Prop:=fun x lo hi H Q=>∃a xs,x=.ref a∧SqL K H a xs∧∀p,H p=none→Q (.ref p) (upd H p (.lst (cutV xs lo hi)))
theorem JC:SlR X (rSlL X.K):=by
 intro pins s σ H x v vl vu lo hi sl Q I rx hs pl pu h
 obtain ⟨a,xs,rfl,hx,q⟩:=h
 cases rx
 obtain ⟨its,r,ht,hz⟩:=I.list hx
 have hlen:=r.length
 refine ⟨"list",_,slot_list_getitem.lookup,ht.isList.typeIs,?_⟩
 refine wpAny_getItem_list_slice ht.isList hs pl pu .none (by simp) ?_ (by rw [kx] <;> lia)
 rw [JB,←hlen]
 refine ⟨.ref s.heap.objs.size,_,I.laid (t':=s.toks) (o:=.lst (cutV xs lo hi)) (fun b ob q=>Heap.get?_push_of_some _ q) (kc _) ?_,rfl,q _ (I.hok.fresh (kc _))⟩
 exact ⟨km (J7 xs lo hi) hz,_,0,(r.drop (HT.sIx xs.length 0 lo)).take (HT.sIx xs.length xs.length hi - HT.sIx xs.length 0 lo),Heap.get?_push_size _ rfl⟩
noncomputable def Zk:V→Bool
 | .non=>true
 | .bl _=>true
 | .int _=>true
 | .str _=>true
 | _=>false
noncomputable def eqV:V→V→Bool
 | .non,.non=>true
 | .bl a,.bl b=>a == b
 | .bl a,.int b=>(if a then 1 else 0) == b
 | .int a,.bl b=>a == (if b then 1 else 0)
 | .int a,.int b=>a == b
 | .str a,.str b=>a == b
 | _,_=>false
theorem z4z {A:Around} {s:Shared} {y x:V} {u v:Value} (ry:RelV y u) (rx:RelV x v) (fy:Zk y=true) (fx:Zk x=true):SeqAt.EqAt A s u v (eqV y x):=by
 cases y with
 | non=>
  cases ry
  cases x with
  | non=>cases rx;exact SeqAt.EqAt.same _
  | bl b=>cases rx;exact SeqAt.EqAt.none_bool b
  | int b=>obtain ⟨t,rfl⟩:=rx;exact SeqAt.EqAt.none_int b t
  | str b=>obtain ⟨t,rfl⟩:=rx;exact SeqAt.EqAt.none_str b t
  | _=>exact absurd (show false=true from fx) ka
 | bl a=>
  cases ry
  cases x with
  | non=>cases rx;exact SeqAt.EqAt.bool_none a
  | bl b=>cases rx;exact SeqAt.EqAt.bool_bool a b
  | int b=>obtain ⟨t,rfl⟩:=rx;exact SeqAt.EqAt.bool_int a b t
  | str b=>obtain ⟨t,rfl⟩:=rx;exact SeqAt.EqAt.bool_str a b t
  | _=>exact absurd (show false=true from fx) ka
 | int a=>
  obtain ⟨t',rfl⟩:=ry
  cases x with
  | non=>cases rx;exact SeqAt.EqAt.int_none a t'
  | bl b=>cases rx;exact SeqAt.EqAt.int_bool a t' b
  | int b=>obtain ⟨t,rfl⟩:=rx;exact SeqAt.EqAt.int_int a t' b t
  | str b=>obtain ⟨t,rfl⟩:=rx;exact SeqAt.EqAt.int_str a t' b t
  | _=>exact absurd (show false=true from fx) ka
 | str a=>
  obtain ⟨t',rfl⟩:=ry
  cases x with
  | non=>cases rx;exact SeqAt.EqAt.str_none a t'
  | bl b=>cases rx;exact SeqAt.EqAt.str_bool a t' b
  | int b=>obtain ⟨t,rfl⟩:=rx;exact SeqAt.EqAt.str_int a t' b t
  | str b=>obtain ⟨t,rfl⟩:=rx;exact SeqAt.EqAt.str_str a t' b t
  | _=>exact absurd (show false=true from fx) ka
 | _=>exact absurd (show false=true from fy) ka
noncomputable def eqU (x:V) (u:Value):Bool:=match u with
 | .none=>eqV .non x
 | .bool b=>eqV (.bl b) x
 | .int i _=>eqV (.int i) x
 | .str z _=>eqV (.str z) x
 | _=>false
theorem z6D {x y:V} {u:Value} (r:RelV y u) (f:Zk y=true):eqU x u=eqV y x:=by
 cases y with
 | non=>cases r;rfl
 | bl b=>cases r;rfl
 | int i=>obtain ⟨t,rfl⟩:=r;rfl
 | str z=>obtain ⟨t,rfl⟩:=r;rfl
 | _=>exact absurd (show false=true from f) ka
theorem Jb {x:V}:∀{xs:List V} {us:List Value},Vals xs us→xs.all Zk=true→us.any (eqU x)=xs.any fun y=>eqV y x
 | _,_,.nil,_=>rfl
 | y :: xs,u :: us,.cons r t,f=>by
  rw [List.all_cons,kX] at f
  rw [List.any_cons,List.any_cons,z6D r f.1,Jb t f.2]
theorem ZG {A:Around} {s:Shared} {x:V} {v:Value} (rx:RelV x v) (fx:Zk x=true):∀{xs:List V} {us:List Value},Vals xs us→xs.all Zk=true→∀u∈us,SeqAt.EqAt A s u v (eqU x u)
 | _,_,.nil,_=>fun u hu=>by cases hu
 | y :: xs,u :: us,.cons r t,f=>fun u' hu=>by
  rw [List.all_cons,kX] at f
  rcases kw.mp hu with rfl | hu
  ·rw [z6D r f.1];exact z4z r rx f.1 fx
  ·exact ZG rx fx t f.2 u' hu
noncomputable def inV (x:V) (xs:List V):Bool:=xs.any fun y=>eqV y x
def rIn (K:kn) (neg:Bool):R2:=fun x y H Q=>∃p xs,y=.ref p∧(SqL K H p xs∨SqT K H p xs)∧Zk x=true∧xs.all Zk=true∧Q (.bl (if neg then !inV x xs else inV x xs)) H
theorem qB:OpR X (compareOp .In) (rIn X.K false):=by
 intro pins s σ H x y v u Q I rx ry h
 obtain ⟨p,xs,rfl,hq,fx,fs,q⟩:=h
 cases ry
 rcases hq with hq | hq
 ·obtain ⟨its,r,pl,hz⟩:=I.list hq
  refine SeqAt.in_listAt (eqU x) pl.isList (fun w hw=>ZG rx fx r fs w (by simpa using hw)) ⟨.bl _,H,I,rfl,?_⟩
  rw [show its.toArray.any (eqU x)=its.any (eqU x) by simp,Jb r fs]
  exact q
 ·obtain ⟨its,r,pl,hz⟩:=I.tuple hq
  refine SeqAt.in_tupleAt (eqU x) pl (fun w hw=>ZG rx fx r fs w (by simpa using hw)) ⟨.bl _,H,I,rfl,?_⟩
  rw [show its.toArray.any (eqU x)=its.any (eqU x) by simp,Jb r fs]
  exact q
theorem Qd:OpR X (compareOp .NotIn) (rIn X.K true):=by
 intro pins s σ H x y v u Q I rx ry h
 obtain ⟨p,xs,rfl,hq,fx,fs,q⟩:=h
 cases ry
 rcases hq with hq | hq
 ·obtain ⟨its,r,pl,hz⟩:=I.list hq
  refine SeqAt.notIn_listAt (eqU x) pl.isList (fun w hw=>ZG rx fx r fs w (by simpa using hw)) ⟨.bl _,H,I,rfl,?_⟩
  rw [show its.toArray.any (eqU x)=its.any (eqU x) by simp,Jb r fs]
  exact q
 ·obtain ⟨its,r,pl,hz⟩:=I.tuple hq
  refine SeqAt.notIn_tupleAt (eqU x) pl (fun w hw=>ZG rx fx r fs w (by simpa using hw)) ⟨.bl _,H,I,rfl,?_⟩
  rw [show its.toArray.any (eqU x)=its.any (eqU x) by simp,Jb r fs]
  exact q
theorem zy:Jd X (.builtin "len") (fun xs H Q=>∃p ys,xs=[.ref p]∧(SqL X.K H p ys∨SqT X.K H p ys)∧Q (.int ys.length) H):=by
 intro pins s σ H xs us Q I r h
 obtain ⟨p,ys,rfl,hq,q⟩:=h
 obtain ⟨u,rfl,rx⟩:=z2t r
 cases rx
 have hn:=J1
 rcases hq with hq | hq
 ·obtain ⟨its,r',pl,hz⟩:=I.list hq
  have hlen:=r'.length
  exact Calls.call_len_list pl.isList (by simp only [kx] <;> lia) ⟨.int ys.length,H,I.tok _,⟨s.toks+1,by rw [kx,hlen]⟩,q⟩
 ·obtain ⟨its,r',pl,hz⟩:=I.tuple hq
  have hlen:=r'.length
  exact len_tuple pl (by simp only [kx] <;> lia) ⟨.int ys.length,H,I.tok _,⟨s.toks+1,by rw [kx,hlen]⟩,q⟩
theorem z0X:Jd X (.builtin "len") (fun xs H Q=>∃z,xs=[.str z]∧z.length≤sizeLine∧Q (.int z.length) H):=by
 intro pins s σ H xs us Q I r h
 obtain ⟨z,rfl,hz,q⟩:=h
 obtain ⟨u,rfl,t,rfl⟩:=z2t r
 have hn:=J1
 exact len_str (by lia) ⟨.int z.length,H,I.tok _,⟨_,rfl⟩,q⟩
theorem z0W:Jd X (.type "list") (fun xs H Q=>∃p ys,xs=[.ref p]∧(SqL X.K H p ys∨SqT X.K H p ys)∧∀l,H l=none→Q (.ref l) (upd H l (.lst ys))):=by
 intro pins s σ H xs us Q I r h
 obtain ⟨p,ys,rfl,hq,q⟩:=h
 obtain ⟨u,rfl,rx⟩:=z2t r
 cases rx
 have fin:∀(its:List Value),Vals ys its→ys.length≤sizeLine→∀(h':Heap) (c':Nat),(∀b o',s.heap.get? b=some o'→h'.get? b=some o')→
   h'.get? s.heap.objs.size=some { cls:=.type "list",dict:=none,data:=.seq its.toArray c',slots:=#[] }→EP X pins σ Q (.ref s.heap.objs.size) { s with heap:=h' }:=fun its r' hz h' c' kp e=>
  ⟨.ref s.heap.objs.size,_,I.laid (t':=s.toks) kp (kc _) (show qF X.prog X.w _ h' _ (.lst ys) from ⟨hz,its,c',r',e⟩),rfl,q _ (I.hok.fresh (kc _))⟩
 rcases hq with hq | hq
 ·obtain ⟨its,r',pl,hz⟩:=I.list hq
  have hlen:=r'.length
  obtain ⟨o,ho,hc,n,hd⟩:=pl.isList
  exact call_list_seq p (.inl rfl) ho hc hd (fun h' c' kp e=>fin its r' hz h' c' kp e) (by simp only [kx] <;> lia)
 ·obtain ⟨its,r',pl,hz⟩:=I.tuple hq
  have hlen:=r'.length
  obtain ⟨o,ho,hc,n,hd⟩:=pl
  exact call_list_seq p (.inr rfl) ho hc hd (fun h' c' kp e=>fin its r' hz h' c' kp e) (by simp only [kx] <;> lia)
def tyV (K:kn) (T:String) (x:V) (H:Hp):Prop:=match x with
 | .str _=>T="str"
 | .int _=>T="int"
 | .ref p=>(T="list"∧∃xs,SqL K H p xs)∨(T="tuple"∧∃o,K.lookup p=some o∧o.cls=.type "tuple"∧o.dict=none)∨
   (T="dict"∧((∃kvs,H p=some (.dK kvs))∨∃kvs,H p=some (.dT kvs)))∨(T="set"∧∃S n,H p=some (.set S n))
 | _=>False
theorem z6m {pins:List (Addr × Obj)} {σ:St} {H:Hp} {s:Shared} {T:String} {x:V} {v:Value} (I:Inv X pins σ H s) (r:RelV x v) (ty:tyV X.K T x H):
  s.TypeIs v T∧∀a,v=.ref a→∃ob,s.heap.get? a=some ob∧ob.dict=none:=by
 cases x with
 | str z=>
  obtain ⟨t,rfl⟩:=r
  cases (show T="str" from ty)
  exact ⟨typeIs_str s z t,fun _ e=>nomatch e⟩
 | int i=>
  obtain ⟨t,rfl⟩:=r
  cases (show T="int" from ty)
  exact ⟨typeIs_int s i t,fun _ e=>nomatch e⟩
 | ref p=>
  cases r
  rcases ty with ⟨rfl,xs,hq⟩ | ⟨rfl,o,hk,hc,hd⟩ | ⟨rfl,hk⟩ | ⟨rfl,S,n,hk⟩
  ·obtain ⟨its,_,pl,_⟩:=I.list hq
   refine ⟨pl.isList.typeIs,fun a e=>?_⟩
   cases e
   obtain ⟨o,n,e,c,hd,_⟩:=pl
   exact ⟨o,e,hd⟩
  ·refine ⟨⟨o,I.kIn p o hk,hc⟩,fun a e=>?_⟩
   cases e
   exact ⟨o,I.kIn _ o hk,hd⟩
  ·have z:∃o,s.heap.get? p=some o∧o.ExactDict:=by
    rcases hk with ⟨kvs,hk⟩ | ⟨kvs,hk⟩
    ·obtain ⟨_,_,_,_,o,_,_,e,ex,_⟩:=I.hok p _ hk
     exact ⟨o,e,ex⟩
    ·obtain ⟨_,_,_,_,o,_,_,e,ex,_⟩:=I.hok p _ hk
     exact ⟨o,e,ex⟩
   obtain ⟨o,e,ex⟩:=z
   refine ⟨⟨o,e,ex.1⟩,fun a e2=>?_⟩
   cases e2
   exact ⟨o,e,ex.2.1⟩
  ·obtain ⟨o,_,_,_,e,ex,_⟩:=I.hok p _ hk
   refine ⟨⟨o,e,ex.1⟩,fun a e2=>?_⟩
   cases e2
   exact ⟨o,e,ex.2.1⟩
 | _=>exact False.elim ty
def tBM0 (K:kn) (T:String) (r:V→List V→Hp→VK→Prop) (to:TE):TE:=fun σ H Q=>to σ H fun x H1=>tyV K T x H1∧r x [] H1 Q
def tBM (K:kn) (T:String) (r:V→List V→Hp→VK→Prop) (to:TE) (t:TA):TE:=fun σ H Q=>to σ H fun x H1=>tyV K T x H1∧t σ H1 fun xs H2=>r x xs H2 Q
variable {o e:Expr} {es:List Expr} {to:TE} {t:TA} {name:Str} {apos cpos:Pos} {T id:String} {r:V→List V→Hp→VK→Prop}
theorem z3W (pa:PlainAttrs T) (slot:Slot T name id) (hty:typeOf (.builtin id)=pure (.type "method_descriptor")) (hm:MtR X id r) (ho:PE X o to)
  (hbase:autoParam (attributeBase o name X.env (eval o X.env)=eval o X.env) aR._auto_1) (hline:autoParam ((apos.endLine == cpos.line)=true) aR._auto_1):PE X (.Call (.Attribute o name apos) [] [] cpos) (tBM0 X.K T r to):=by
 intro pins s σ H Q I h
 refine wpAny_Call_method0_late hbase hline (thn (ho pins s σ H _ I h) fun v s1 zz=>?_)
 obtain ⟨x,H1,I1,r1,ty,q1⟩:=zz
 obtain ⟨h1,h2⟩:=z6m I1 r1 ty
 exact ⟨T,id,pa,slot,hty,h1,h2,Calls.callWith_builtin rfl (PySem.evalArgs_none (hm pins s1 σ H1 x [] v [] Q I1 r1 .nil q1))⟩
theorem z8o (pa:PlainAttrs T) (slot:Slot T name id) (hty:typeOf (.builtin id)=pure (.type "method_descriptor")) (hm:MtR X id r) (ho:PE X o to) (ha:PA X (e :: es) t)
  (hbase:autoParam (attributeBase o name X.env (eval o X.env)=eval o X.env) aR._auto_1)
  (hfew:autoParam (((backTo cpos (starEach (e :: es) X.env)).all (fun x=> !x.1)&&(backToKw cpos (keywordEach [] X.env)).all (fun x=>x.1.isSome)
   &&decide ((e :: es).length+([]:List Keyword).length+(if ([]:List Keyword).isEmpty then 0 else 1) < 30))=true) aR._auto_1)
  (hline:autoParam ((apos.endLine == cpos.line)=true) aR._auto_1) (hs:autoParam (starEach (e :: es) X.env=(false,eval e X.env) :: starEach es X.env) aR._auto_1) (hplain:autoParam ((backTo cpos (starEach es X.env)).any (·.1)=false) aR._auto_1):
  PE X (.Call (.Attribute o name apos) (e :: es) [] cpos) (tBM X.K T r to t):=by
 intro pins s σ H Q I h
 refine wpAny_Call_method_late hbase hfew hline rfl (thn (ho pins s σ H _ I h) fun v s1 zz=>?_)
 obtain ⟨x,H1,I1,r1,ty,q1⟩:=zz
 obtain ⟨h1,h2⟩:=z6m I1 r1 ty
 refine ⟨T,id,pa,slot,hty,h1,h2,?_⟩
 have hA:=ha cpos pins s1 σ H1 _ I1 q1
 rw [hs] at hA ⊢
 refine Calls.callWith_builtin (by show (false||(backTo cpos (starEach es X.env)).any (·.1))=false;rw [hplain] <;> rfl) (Calls.evalArgs_plain ?_)
 exact thn hA fun us s2 ⟨vs,H2,I2,r2,q2⟩=>hm pins s2 σ H2 x vs v us Q I2 r1 r2 q2
end
end L2
namespace L2
open PySem PySem.Spec PyProof.Rows
def MtM (X:Cx) (id:String) (r:V→List V→Hp→VK→Prop):Prop:=
 ∀(pins:List (Addr × Obj)) (s:Shared) (σ:St) (H:Hp) (x:V) (xs:List V) (v:Value) (us:List Value) (Q:VK),Inv X pins σ H s→RelV x v→Vals xs us→r x xs H Q→
  wpAny (model X.prog X.w) X.A (call (.builtin id) (v :: us)) (EP X pins σ Q) X.xe s
theorem Vals.one:∀{x:V} {us:List Value},Vals [x] us→∃u,us=[u]∧RelV x u
 | _,_,.cons r .nil=>⟨_,rfl,r⟩
theorem Vals.eraseIdx:∀{xs:List V} {us:List Value} (i:Nat),Vals xs us→Vals (xs.eraseIdx i) (us.eraseIdx i)
 | _,_,_,.nil=>.nil
 | _,_,0,.cons _ t=>t
 | _,_,i+1,.cons r t=>.cons r (Vals.eraseIdx i t)
theorem Vals.rep {xs:List V} {us:List Value} (h:Vals xs us):∀k:Nat,Vals (List.replicate k xs).flatten (List.replicate k us).flatten
 | 0=>.nil
 | k+1=>by
  rw [List.replicate_succ,List.replicate_succ,List.flatten_cons,List.flatten_cons]
  exact Vals.append h (Vals.rep h k)
theorem z0B {α:Type}:∀(l:List α) (i:Nat),(l.eraseIdx i).length≤l.length
 | [],_=>kc _
 | _ :: _,0=>Nat.le_succ _
 | _ :: r,i+1=>Nat.succ_le_succ (z0B r i)
theorem z0K (its:List Value):∀(k:Nat) (acc:List Value),
  List.foldl (fun x1 x2=>x1++x2) acc.toArray (List.replicate k its.toArray)=(acc++(List.replicate k its).flatten).toArray
 | 0,acc=>by simp
 | k+1,acc=>by
  have e:acc.toArray++its.toArray=(acc++its).toArray:=by simp
  have e2:(acc++its)++(List.replicate k its).flatten=acc++(List.replicate (k+1) its).flatten:=by
   rw [List.replicate_succ,List.flatten_cons,kP]
  rw [←e2,←z0K its k (acc++its),←e,List.replicate_succ,List.foldl_cons]
section
variable {X:Cx} {pins:List (Addr × Obj)} {σ:St} {H:Hp} {s:Shared} {l b:Addr} {xs ys zs:List V}
theorem Inv.lset {its its':List Value} {n:Nat} {f:Array Value→Array Value} {t':Nat} (I:Inv X pins σ H s) (hH:H l=some (.lst xs))
  (e:s.heap.get? l=some { cls:=.type "list",data:=.seq its.toArray n }) (hf:f its.toArray=its'.toArray) (hv:Vals ys its') (hz:ys.length≤sizeLine):
  Inv X pins σ (upd H l (.lst ys)) { s with heap:=s.heap.update l (Obj.mapSeq f),toks:=t' }:=by
 have q:=PySem.IsL.update e f
 rw [hf] at q
 refine I.write (x:=l) (e:=l) (by rw [hH];exact trivial) (.inl rfl) (fun b' u hb hu=>(Heap.get?_update_other s.heap (Obj.mapSeq f) (Ne.symm hb)).trans hu) ⟨_,q⟩ ?_
 exact ⟨hz,its',_,hv,q⟩
theorem Inv.lnew {its:List Value} {t':Nat} (I:Inv X pins σ H s) (hv:Vals ys its) (hz:ys.length≤sizeLine):
  Inv X pins σ (upd H s.heap.objs.size (.lst ys)) { s with heap:=s.heap.push { cls:=.type "list",data:=.seq its.toArray },toks:=t' }:=
 I.laid (fun _ _ q=>Heap.get?_push_of_some _ q) (kc _) ⟨hz,its,0,hv,Heap.get?_push_size _ rfl⟩
theorem Inv.fresh (I:Inv X pins σ H s):H s.heap.objs.size=none:=I.hok.fresh (kc _)
theorem Inv.lstM (I:Inv X pins σ H s) (hH:H l=some (.lst xs)):xs.length≤sizeLine∧∃(its:List Value) (n:Nat),Vals xs its∧xs.length=its.length∧s.heap.get? l=some { cls:=.type "list",data:=.seq its.toArray n }:=by
 obtain ⟨z,its,n,r,e⟩:=I.hok l _ hH
 exact ⟨z,its,n,r,r.length,e⟩
theorem z5u {n:Nat} (h:n≤sizeLine):Builtin.List.listTooLong n=false:=by
 unfold Builtin.List.listTooLong
 exact ke (by lia)
end
section
variable {X:Cx}
def z1l:V→List V→Hp→VK→Prop:=fun x vs H Q=>∃l xs y,x=.ref l∧vs=[y]∧H l=some (.lst xs)∧xs.length < sizeLine∧Q .non (upd H l (.lst (xs++[y])))
theorem z47:MtM X "list.append" z1l:=by
 intro pins s σ H x vs v us Q I rx rv h
 obtain ⟨l,xs,y,rfl,rfl,hH,hz,q⟩:=h
 cases rx
 obtain ⟨u,rfl,ru⟩:=rv.one
 obtain ⟨z,its,n,r,hl,e⟩:=I.lstM hH
 refine call_meets F.slot_list_append ⟨_,e,rfl⟩ F.entry_list_append (F.args_list_append_2 _ _) (PySem.list_append l its.toArray n u (by rw [kx];lia)) ⟨e,?_⟩
 refine ⟨.non,_,I.lset (its':=its++[u]) hH e (by simp) (r.append (.cons ru .nil)) ?_,rfl,q⟩
 rw [kh,ky]
 lia
def z8k:V→List V→Hp→VK→Prop:=fun x vs H Q=>∃l xs i k y,x=.ref l∧vs=[.int i]∧H l=some (.lst xs)∧-(2 ^ 63)≤i∧i < 2 ^ 63∧seqIndex? i xs.length=some k∧xs[k]?=some y∧Q y (upd H l (.lst (xs.eraseIdx k)))
theorem z5z:MtM X "list.pop" z8k:=by
 intro pins s σ H x vs v us Q I rx rv h
 obtain ⟨l,xs,i,k,y,rfl,rfl,hH,h1,h2,hk,hy,q⟩:=h
 cases rx
 obtain ⟨u,rfl,ru⟩:=rv.one
 obtain ⟨t,rfl⟩:=ru
 obtain ⟨z,its,n,r,hl,e⟩:=I.lstM hH
 obtain ⟨w,hw,rw'⟩:=r.get hy
 refine call_meets F.slot_list_pop ⟨_,e,rfl⟩ F.entry_list_pop (F.args_list_pop_2 _ _)
  (MeetsSeq.list_pop_at l its.toArray n i t k w (fitsIndex_both h1 h2) (by rw [kx,←hl];exact hk) (by rw [←Array.getElem?_toList];exact hw) (by rw [kx];lia)) ⟨e,?_⟩
 refine ⟨y,_,I.lset (its':=its.eraseIdx k) hH e ?_ (r.eraseIdx k) ?_,rw',q⟩
 ·show its.toArray.eraseIdxIfInBounds k=(its.eraseIdx k).toArray
  rw [List.eraseIdxIfInBounds_toArray]
 ·have:=z0B xs k
  lia
def rCat:R2:=fun x y H Q=>∃l b xs zs,x=.ref l∧y=.ref b∧H l=some (.lst xs)∧H b=some (.lst zs)∧xs.length+zs.length≤sizeLine∧∀p,H p=none→Q (.ref p) (upd H p (.lst (xs++zs)))
theorem z42:OpR X (binaryOp .Add) rCat:=by
 intro pins s σ H x y v u Q I rx ry h
 obtain ⟨l,b,xs,zs,rfl,rfl,hH,hB,hz,q⟩:=h
 cases rx
 cases ry
 obtain ⟨z,its,n,r,hl,e⟩:=I.lstM hH
 obtain ⟨z2,its2,n2,r2,hl2,e2⟩:=I.lstM hB
 refine PySem.P.add_list e e2 ?_ (by rw [kx,kx];lia)
 have ea:its.toArray++its2.toArray=(its++its2).toArray:=by simp
 rw [ea]
 exact ⟨.ref _,_,I.lnew (t':=s.toks) (r.append r2) (by rw [kh];lia),rfl,q _ I.fresh⟩
def rRep:R2:=fun x y H Q=>∃l k xs,x=.ref l∧y=.int k∧H l=some (.lst xs)∧-(2 ^ 63)≤k∧k < 2 ^ 63∧xs.length * k.toNat≤sizeLine∧
 ∀p,H p=none→Q (.ref p) (upd H p (.lst (List.replicate k.toNat xs).flatten))
theorem z7d {α:Type} (xs:List α) (k:Nat):(List.replicate k xs).flatten.length=k * xs.length:=by
 induction k with
 | zero=>simp
 | succ k ih=>rw [List.replicate_succ,List.flatten_cons,kh,ih,Nat.succ_mul,Nat.add_comm]
theorem z8r:OpR X (binaryOp .Mult) rRep:=by
 intro pins s σ H x y v u Q I rx ry h
 obtain ⟨l,k,xs,rfl,rfl,hH,h1,h2,hz,q⟩:=h
 cases rx
 obtain ⟨t,rfl⟩:=ry
 obtain ⟨z,its,n,r,hl,e⟩:=I.lstM hH
 have hlen:its.toArray.size * k.toNat≤sizeLine:=by rw [kx,←hl];exact hz
 have hcap:¬its.toArray.size * k.toNat > (2 ^ 63 - 1) / 8:=by
  have:(sizeLine:Nat)≤(2 ^ 63 - 1) / 8:=by decide
  lia
 have hfit:¬(!Builtin.List.listFitsIndex k)=true:=by
  rw [fitsIndex_both h1 h2]
  exact ka
 have hlong:¬Builtin.List.listTooLong (its.toArray.size * k.toNat)=true:=by
  rw [z5u hlen]
  exact ka
 have hnew:List.foldl (fun x1 x2=>x1++x2) #[] (List.replicate (if its.toArray.isEmpty=true then 0 else k.toNat) its.toArray)=(List.replicate k.toNat its).flatten.toArray:=by
  have f0:∀m:Nat,List.foldl (fun x1 x2=>x1++x2) #[] (List.replicate m its.toArray)=(List.replicate m its).flatten.toArray:=fun m=>by
   have:=z0K its m []
   rw [List.nil_append] at this
   exact this
  rw [f0]
  cases its with
  | nil=>simp
  | cons a r'=>rw [ko (by simp)]
 refine wpAny_binaryOp_repeat_ref (T:="list") (U:="int") (by decide) ⟨_,e,rfl⟩ (fun s'=>typeIs_int s' k t) noFill_list_mul F.fills_int_mul F.slot_int_rmul repeat_list F.slot_int_index.lookup
  (call_meets F.slot_int_rmul (typeIs_int s k t) F.entry_int_rmul (F.args_int_rmul_2 _ _) (int___rmul___int_list k t l its.toArray n)
   ⟨e,rfl,⟨_,e,rfl⟩,call_meets F.slot_list_mul ⟨_,e,rfl⟩ F.entry_list_mul (F.args_list_mul_2 _ _) (AutoListH.list___mul___list_int_3 l its.toArray n k t hfit hcap hlong) ⟨e,?_⟩⟩)
 rw [hnew]
 exact ⟨.ref _,_,I.lnew (t':=s.toks) (r.rep k.toNat) (by rw [z7d,Nat.mul_comm];exact hz),rfl,q _ I.fresh⟩
end
section
variable {prog:Program} {w:World} {A:Around} {E:Value→Shared→Prop} {s:Shared}
set_option maxRecDepth 100000 in
end
section
variable {X:Cx}
end
end L2
namespace L2
open PySem PySem.Spec PyProof.Rows
section
variable {κ:Type} [DecidableEq κ]
noncomputable def valV (kvs:List (κ × V)) (k:κ):Option V:=(kvs.find? fun kv=>decide (kv.1=k)).map (·.2)
noncomputable def putK (kvs:List (κ × V)) (k:κ) (v:V):List (κ × V):=
 if (kvs.any fun kv=>decide (kv.1=k))=true then kvs.map (fun kv=>if kv.1=k then (kv.1,v) else kv) else kvs++[(k,v)]
theorem qS {p:κ × V} {r:List (κ × V)} {k:κ} (e:p.1=k):valV (p :: r) k=some p.2:=by simp [valV,List.find?_cons,e]
theorem qT {p:κ × V} {r:List (κ × V)} {k:κ} (e:¬p.1=k):valV (p :: r) k=valV r k:=by simp [valV,List.find?_cons,e]
theorem Qq (k:κ):∀kvs:List (κ × V),(kvs.any fun kv=>decide (kv.1=k))=(valV kvs k).isSome
 | []=>rfl
 | p :: r=>by
  rw [List.any_cons]
  by_cases e:p.1=k
  ·simp only [qS e,kf e,Bool.true_or,Option.isSome_some]
  ·rw [qT e,ke e,Bool.false_or];exact Qq k r
theorem z1M (k j:κ) (y:V):∀kvs:List (κ × V),valV (kvs.map fun kv=>if kv.1=k then (kv.1,y) else kv) j=(valV kvs j).map fun x=>if j=k then y else x
 | []=>rfl
 | p :: r=>by
  have ih:=z1M k j y r
  rw [kN]
  by_cases h:p.1=k
  ·rw [kq h]
   by_cases e:p.1=j
   ·rw [qS (p:=(p.1,y)) e,qS e,Option.map_some,kq (e.symm.trans h)]
   ·rw [qT (p:=(p.1,y)) e,qT e,ih]
  ·rw [ko h]
   by_cases e:p.1=j
   ·rw [qS (p:=p) e,qS e,Option.map_some,ko (fun z=>h (e.trans z))]
   ·rw [qT (p:=p) e,qT e,ih]
theorem z05 (k j:κ) (y:V):∀kvs:List (κ × V),valV kvs k=none→valV (kvs++[(k,y)]) j=if j=k then some y else valV kvs j
 | [],_=>by
  by_cases e:k=j
  ·rw [kq e.symm];exact qS (p:=(k,y)) e
  ·rw [ko (fun z=>e z.symm)];exact qT (p:=(k,y)) e
 | p :: r,hn=>by
  rw [List.cons_append]
  have hk:¬p.1=k:=fun z=>by rw [qS z] at hn;cases hn
  rw [qT hk] at hn
  have ih:=z05 k j y r hn
  by_cases e:p.1=j
  ·rw [qS e,qS e,ko (fun z=>hk (e.trans z))]
  ·rw [qT e,qT e,ih]
theorem Jy (kvs:List (κ × V)) (k j:κ) (y:V):valV (putK kvs k y) j=if j=k then some y else valV kvs j:=by
 unfold putK
 by_cases a:(kvs.any fun kv=>decide (kv.1=k))=true
 ·rw [kq a,z1M]
  rw [Qq] at a
  by_cases e:j=k
  ·obtain ⟨x,hx⟩:=Option.isSome_iff_exists.mp a
   rw [kq e,e,hx,Option.map_some,kq rfl]
  ·rw [ko e]
   cases valV kvs j with
   | none=>rfl
   | some x=>rw [Option.map_some,ko e]
 ·rw [ko a]
  refine z05 k j y kvs ?_
  rw [Qq] at a
  cases q:valV kvs k with
  | none=>rfl
  | some x=>rw [q] at a;exact (a rfl).elim
theorem j4 (kvs:List (κ × V)) (k:κ) (v:V):(putK kvs k v).length≤kvs.length+1:=by
 unfold putK
 split
 ·rw [kg];lia
 ·rw [kh,kJ,List.length_nil];lia
theorem RelO.isSome_eq {o:Option V} {u:Option Value} (r:RelO o u):o.isSome=u.isSome:=by
 cases o with
 | none=>cases u with
  | none=>rfl
  | some _=>exact (show False from r).elim
 | some _=>cases u with
  | none=>exact (show False from r).elim
  | some _=>rfl
theorem RelO.getD {o:Option V} {u:Option Value} {d:V} {d':Value} (r:RelO o u) (rd:RelV d d'):RelV (o.getD d) (u.getD d'):=by
 cases o with
 | none=>cases u with
  | none=>exact rd
  | some _=>exact (show False from r).elim
 | some _=>cases u with
  | none=>exact (show False from r).elim
  | some _=>exact r
theorem KV.val {kvs:List (κ × V)} {vs:List (κ × Value)} (r:KV kvs vs) (k:κ):RelO (valV kvs k) (valueAt vs k):=by
 unfold KV at r
 induction r with
 | nil=>exact True.intro
 | @cons p q ps qs h t ih=>
  obtain ⟨h1,h2⟩:=h
  by_cases e:p.1=k
  ·have e':q.1=k:=h1.symm.trans e
   have b:valueAt (q :: qs) k=some q.2:=by simp [valueAt,List.find?_cons,e']
   rw [qS e,b];exact h2
  ·have e':¬q.1=k:=fun z=>e (h1.trans z)
   have b:valueAt (q :: qs) k=valueAt qs k:=by simp [valueAt,List.find?_cons,e']
   rw [qT e,b];exact ih
theorem KV.any {kvs:List (κ × V)} {vs:List (κ × Value)} (r:KV kvs vs) (k:κ):(kvs.any fun kv=>decide (kv.1=k))=vs.any fun kv=>decide (kv.1=k):=by
 unfold KV at r
 induction r with
 | nil=>rfl
 | cons h t ih=>rw [List.any_cons,List.any_cons,ih,h.1]
theorem KV.repl {kvs:List (κ × V)} {vs:List (κ × Value)} (r:KV kvs vs) (k:κ) {y:V} {u:Value} (ry:RelV y u):
  KV (kvs.map fun kv=>if kv.1=k then (kv.1,y) else kv) (vs.map fun kv=>if kv.1=k then (kv.1,u) else kv):=by
 unfold KV at r ⊢
 induction r with
 | nil=>exact .nil
 | @cons p q ps qs h t ih=>
  rw [kN,kN]
  refine .cons ?_ ih
  obtain ⟨h1,h2⟩:=h
  by_cases e:p.1=k
  ·rw [kq e,kq (h1.symm.trans e)];exact ⟨h1,ry⟩
  ·rw [ko e,ko (fun z=>e (h1.trans z))];exact ⟨h1,h2⟩
theorem KV.put {kvs:List (κ × V)} {vs:List (κ × Value)} (r:KV kvs vs) (k:κ) {y:V} {u:Value} (ry:RelV y u):KV (putK kvs k y) (stored vs k u):=by
 unfold putK stored
 rw [r.any k]
 by_cases e:(vs.any fun kv=>decide (kv.1=k))=true
 ·rw [kq e,kq e];exact r.repl k ry
 ·rw [ko e,ko e];exact Paired.snoc r ⟨rfl,ry⟩
theorem KV.length {kvs:List (κ × V)} {vs:List (κ × Value)} (r:KV kvs vs):kvs.length=vs.length:=Paired.length r
end
theorem z1v {P:Program} {w:World} {k:Key} {u:Value} (r:RelV (kV k) u):(qj P w).is k u=true:=by
 cases k with
 | inl i=>obtain ⟨t,e⟩:=(show ∃t,u=Value.int i t from r);subst e;exact z1s P w i t
 | inr x=>obtain ⟨t,e⟩:=(show ∃t,u=Value.str x t from r);subst e;exact z1r P w x t
theorem z0G {P:Program} {w:World}:∀{ks:List Key} {us:List Value},Vals (ks.map kV) us→ItemsAre (qj P w) ks us
 | [],_,r=>by rw [List.map_nil] at r;cases r;exact .nil
 | k :: ks,_,r=>by
  rw [kN] at r
  cases r with
  | cons h t=>exact .cons (z1v h) (z0G t)
abbrev KT (H:Hp):List (List Key × V)→List (List Key × Addr × Value)→Prop:=Paired fun p q=>p.1=q.1∧H q.2.1=some (.tup (p.1.map kV))∧RelV p.2 q.2.2
theorem KT.val {H:Hp} {kvs:List (List Key × V)} {xs:List (List Key × Addr × Value)} (r:KT H kvs xs) (k:List Key):RelO (valV kvs k) ((atKey xs k).map (·.2)):=by
 induction r with
 | nil=>exact True.intro
 | @cons p q ps qs h t ih=>
  obtain ⟨h1,_,h2⟩:=h
  by_cases e:p.1=k
  ·have e':q.1=k:=h1.symm.trans e
   have b:atKey (q :: qs) k=some q.2:=by simp [atKey,List.find?_cons,e']
   rw [qS e,b];exact h2
  ·have e':¬q.1=k:=fun z=>e (h1.trans z)
   have b:atKey (q :: qs) k=atKey qs k:=by simp [atKey,List.find?_cons,e']
   rw [qT e,b];exact ih
theorem KT.repl {H:Hp} {kvs:List (List Key × V)} {xs:List (List Key × Addr × Value)} (r:KT H kvs xs) (k:List Key) {y:V} {u:Value} (ry:RelV y u):
  KT H (kvs.map fun kv=>if kv.1=k then (kv.1,y) else kv) (xs.map (putAt k u)):=by
 induction r with
 | nil=>exact .nil
 | @cons p q ps qs h t ih=>
  rw [kN,kN]
  refine .cons ?_ ih
  obtain ⟨h1,h2,h3⟩:=h
  unfold putAt
  by_cases e:p.1=k
  ·rw [kq e,kq (h1.symm.trans e)];exact ⟨h1,h2,ry⟩
  ·rw [ko e,ko (fun z=>e (h1.trans z))];exact ⟨h1,h2,h3⟩
theorem KT.put {H:Hp} {kvs:List (List Key × V)} {xs:List (List Key × Addr × Value)} (r:KT H kvs xs) (k:List Key) {b:Addr} {y:V} {u:Value} (hb:H b=some (.tup (k.map kV))) (ry:RelV y u):
  KT H (putK kvs k y) (storedH xs k b u):=by
 have e:(kvs.any fun kv=>decide (kv.1=k))=(atKey xs k).isSome:=by
  rw [Qq,(r.val k).isSome_eq,Option.isSome_map]
 unfold putK storedH
 rw [e]
 by_cases q:(atKey xs k).isSome=true
 ·rw [kq q,kq q];exact r.repl k ry
 ·rw [ko q,ko q];exact Paired.snoc r ⟨rfl,hb,ry⟩
theorem KT.keeps {H H':Hp} {kvs:List (List Key × V)} {xs:List (List Key × Addr × Value)} (r:KT H kvs xs) (ht:∀b ys,H b=some (.tup ys)→H' b=some (.tup ys)):KT H' kvs xs:=
 Paired.mapP r fun _ _ z=>⟨z.1,ht _ _ z.2.1,z.2.2⟩
section
variable {P:Program} {w:World} {H:Hp} {h:Heap} {a:Addr}
theorem z8j {u:HO} (ok:HOk P w H h) (e:Rd H a u):qF P w H h a u:=e.ok ok
theorem z35 {kvs:List (Key × V)} (ok:HOk P w H h) (e:Rd H a (.dK kvs)):kvs.length≤sizeLine∧(a == sysModules)=false∧∃vs,KV kvs vs∧h.DictOf (qj P w) a vs:=
 show qF P w H h a (.dK kvs) from z8j ok e
theorem z63 {kvs:List (Key × V)} (ok:HOk P w H h) (e:H a=some (.dK kvs)):kvs.length≤sizeLine∧(a == sysModules)=false∧∃vs,KV kvs vs∧h.DictOf (qj P w) a vs:=z35 ok (.inl e)
theorem z0F {ks:List Key} (ok:HOk P w H h) (e:H a=some (.tup (ks.map kV))):(tupleKind (qj P w)).is h ks a:=by
 obtain ⟨_,its,r,o,h1,h2,n,h3⟩:=(show qF P w H h a (.tup (ks.map kV)) from ok a _ e)
 exact ⟨o,its.toArray,n,h1,h2,h3,by simpa using z0G r⟩
theorem z34 {kvs:List (List Key × V)} (ok:HOk P w H h) (e:Rd H a (.dT kvs)):kvs.length≤sizeLine∧(a == sysModules)=false∧
  ∃xs,KT H kvs xs∧h.DictOfH (tupleKind (qj P w)) a xs:=by
 obtain ⟨z,y,xs,r,o,es,ep,h1,h2,h3,h4,h5⟩:=(show qF P w H h a (.dT kvs) from z8j ok e)
 refine ⟨z,y,xs,r,o,es,ep,h1,h2,h3,h4,fun x hx=>?_,h5⟩
 have all:∀{l:List (List Key × V)} {m:List (List Key × Addr × Value)},KT H l m→∀x∈m,(tupleKind (qj P w)).is h x.1 x.2.1:=by
  intro l m q
  induction q with
  | nil=>intro x hx;exact nomatch hx
  | @cons p q ps qs hq t ih=>
   intro x hx
   rcases kw.mp hx with e | hx
   ·subst e
    exact z0F ok (by rw [←hq.1];exact hq.2.1)
   ·exact ih x hx
 exact all r x hx
theorem z9H {kvs:List (List Key × V)} (ok:HOk P w H h) (e:H a=some (.dT kvs)):kvs.length≤sizeLine∧(a == sysModules)=false∧
  ∃xs,KT H kvs xs∧h.DictOfH (tupleKind (qj P w)) a xs:=z34 ok (.inl e)
end
def DGet (H:Hp) (a:Addr) (y:V) (r:Option V):Prop:=
 (∃kvs k,Rd H a (.dK kvs)∧y=kV k∧r=valV kvs k)∨∃kvs k b,Rd H a (.dT kvs)∧y=.ref b∧H b=some (.tup (k.map kV))∧r=valV kvs k
def DPut (H:Hp) (a:Addr) (y v:V) (H':Hp):Prop:=
 (∃kvs k,H a=some (.dK kvs)∧y=kV k∧kvs.length < sizeLine∧H'=upd H a (.dK (putK kvs k v)))∨
 ∃kvs k b,H a=some (.dT kvs)∧y=.ref b∧H b=some (.tup (k.map kV))∧kvs.length < sizeLine∧H'=upd H a (.dT (putK kvs k v))
theorem DGet.k {H:Hp} {a:Addr} {kvs:List (Key × V)} {k:Key} (e:H a=some (.dK kvs)):DGet H a (kV k) (valV kvs k):=.inl ⟨kvs,k,.inl e,rfl,rfl⟩
theorem DPut.k {H:Hp} {a:Addr} {kvs:List (Key × V)} {k:Key} {v:V} (e:H a=some (.dK kvs)) (hl:kvs.length < sizeLine):DPut H a (kV k) v (upd H a (.dK (putK kvs k v))):=.inl ⟨kvs,k,e,rfl,hl,rfl⟩
section
variable {X:Cx} {pins:List (Addr × Obj)} {σ:St} {H:Hp} {s:Shared} {a:Addr} {y v:V} {u r:Value} {o:Option V} {A:Around} {E:Value→Shared→Prop}
theorem Inv.big (I:Inv X pins σ H s):sysModules < s.heap.objs.size:=by
 have h:mainGlobals < s.heap.objs.size:=(I.mod.glob.keeps I.bk).lt
 exact Nat.lt_trans (by decide) h
theorem z4I {Q:Value→Shared→Prop} (hu:A.units+1 < cLine) (I:Inv X pins σ H s) (g:DGet H a y (some v)) (ry:RelV y u) (h:∀w' s',Inv X pins σ H s'→RelV v w'→Q w' s'):
  wpAny (model X.prog X.w) A (getItem (.ref a) u) Q E s:=by
 rcases g with ⟨kvs,k,e,ey,l⟩ | ⟨kvs,k,b,e,ey,eb,l⟩
 ·subst ey
  obtain ⟨z,hd,vs,rel,dd⟩:=z35 I.hok e
  obtain ⟨w',hw,rw'⟩:=RelO.some_of (v:=v) (o:=valueAt vs k) (by rw [l];exact rel.val k)
  exact wpAny_getItem_of (z1v ry) dd.mapOf hw (h w' _ (I.tok _) rw')
 ·subst ey
  cases (show u=Value.ref b from ry)
  obtain ⟨z,hd,xs,rel,dd⟩:=z34 I.hok e
  obtain ⟨w',hw,rw'⟩:=RelO.some_of (v:=v) (o:=(atKey xs k).map (·.2)) (by rw [l];exact rel.val k)
  obtain ⟨p,hp,hp2⟩:=Option.map_eq_some_iff.mp hw
  refine wpAny_getItem_heap (tupleKind_room_in1 hu) (z0F I.hok eb) dd hp ?_
  rw [hp2]
  exact h w' _ (I.tok _) rw'
theorem d_in {Q:Value→Shared→Prop} (hu:A.units+1 < cLine) (I:Inv X pins σ H s) (g:DGet H a y o) (ry:RelV y u) (h:∀s',Inv X pins σ H s'→Q (.bool o.isSome) s'):
  wpAny (model X.prog X.w) A (compareOp .In u (.ref a)) Q E s:=by
 rcases g with ⟨kvs,k,e,ey,l⟩ | ⟨kvs,k,b,e,ey,eb,l⟩
 ·subst ey
  obtain ⟨z,hd,vs,rel,dd⟩:=z35 I.hok e
  refine wpAny_in_of (z1v ry) hd dd.mapOf ?_
  rw [←(rel.val k).isSome_eq,←l]
  exact h _ (I.tok _)
 ·subst ey
  cases (show u=Value.ref b from ry)
  obtain ⟨z,hd,xs,rel,dd⟩:=z34 I.hok e
  refine wpAny_in_heap (tupleKind_room_in1 hu) (z0F I.hok eb) hd dd ?_
  have q:=(rel.val k).isSome_eq
  rw [Option.isSome_map] at q
  rw [←q,←l]
  exact h _ (I.tok _)
theorem JW {h':Heap} {t':Nat} {ob:HO} (I:Inv X pins σ H s) (mu:Mut (H a)) (hs:Heap.SameBut a s.heap h') (he:∃q,h'.get? a=some q) (new:qF X.prog X.w (upd H a ob) h' a ob):
  Inv X pins σ (upd H a ob) { s with heap:=h',toks:=t' }:=
 I.write (x:=a) (e:=a) mu (.inl rfl) (fun b q hb z=>(hs.2 b hb).trans z) he new
theorem z4D {P:Program} {w:World} {H':Hp} {h':Heap} {kvs:List (Key × V)} {vs:List (Key × Value)} (z:kvs.length≤sizeLine) (hd:(a == sysModules)=false) (rel:KV kvs vs) (dd:h'.DictOf (qj P w) a vs):
  qF P w H' h' a (.dK kvs):=⟨z,hd,vs,rel,dd⟩
theorem z4H {H':Hp} {Q:Unit→Shared→Prop} (hu:A.units+1 < cLine) (I:Inv X pins σ H s) (g:DPut H a y v H') (ry:RelV y u) (rv:RelV v r) (h:∀s',Inv X pins σ H' s'→Q () s'):
  wpAny (model X.prog X.w) A (setItem (.ref a) u r) Q E s:=by
 rcases g with ⟨kvs,k,e,ey,l,eH⟩ | ⟨kvs,k,b,e,ey,eb,l,eH⟩
 ·subst ey eH
  obtain ⟨z,hd,vs,rel,dd⟩:=z63 I.hok e
  have hz:vs.length≤sizeLine:=by rw [←rel.length];exact z
  have hl:(putK kvs k v).length≤sizeLine:=by have:=j4 kvs k v;lia
  refine wpAny_setItem_pairs (hsz:=hz) (z1v ry) dd fun h' dd' hs=>h _ ?_
  have he:∃q,h'.get? a=some q:=let ⟨q,_,_,hq,_⟩:=dd';⟨q,hq⟩
  exact JW I (by rw [e];exact True.intro) hs he (z4D hl hd (rel.put k rv) dd')
 ·subst ey eH
  cases (show u=Value.ref b from ry)
  obtain ⟨z,hd,xs,rel,dd⟩:=z9H I.hok e
  have hz:xs.length≤sizeLine:=by rw [←Paired.length rel];exact z
  have hl:(putK kvs k v).length≤sizeLine:=by have:=j4 kvs k v;lia
  refine wpAny_setItem_heap (hsz:=hz) (tupleKind_room_in1 hu) (z0F I.hok eb) dd fun h' dd' hs=>h _ ?_
  obtain ⟨q,es,ep,hq,h2,h3,h4,_,h5⟩:=dd'
  refine JW I (by rw [e];exact True.intro) hs ⟨q,hq⟩ ⟨hl,hd,_,(rel.put k eb rv).keeps fun c ys ec=>?_,q,es,ep,hq,h2,h3,h4,h5⟩
  rw [zl (jU ec e (fun z=>nomatch z))]
  exact ec
end
section
variable {X:Cx} {pins:List (Addr × Obj)} {σ:St} {H:Hp} {s:Shared} {a:Addr} {kvs:List (Key × V)} {k:Key} {u:Value} {A:Around} {E:Value→Shared→Prop}
end
def NoSl (i:Expr):Prop:=∀ov iv,subscripted i false ov iv=operate [ov,iv] (getItem ov iv)
theorem z3l {prog:Program} {w:World} {A:Around} {E:Value→Shared→Prop} {s:Shared} {env:Env} {value slice:Expr} {pos:Pos} {T id:String} {Q:Value→Shared→Prop}
  (hl:typeLookup (.type T) "__getitem__"=pure (some (.builtin id))) (hs:NoSl slice)
  (h:wpAny (model prog w) A (eval value env) (fun o s₁=>wpAny (model prog w) A (eval slice env) (fun i s₂=>s₂.TypeIs o T∧wpAny (model prog w) A (getItem o i) Q E s₂) E s₁) E s):
  wpAny (model prog w) A (eval (.Subscript value slice pos) env) Q E s:=by
 refine Subscript_ (wpAny_mono h (fun o s₁ h₁=>wpAny_mono h₁ (fun i s₂ h₂=>?_) fun _ _ x=>x) fun _ _ x=>x)
 obtain ⟨hT,h₂⟩:=h₂
 unfold subscriptTail
 refine wpAny_bind ?_
 rw [getitemInPython_of_ne hT.not_modules]
 refine wpAny_bind (wpAny_specialOf hT hl ?_)
 have fin:wpAny (model prog w) A (subscripted slice false o i) (fun r s₃=>wpAny (model prog w) A (letTemporaryGo value o r >>= fun _=>pure r) Q E s₃) E s₂:=by
  rw [hs o i]
  exact wpAny_operating (wpAny_mono h₂ (fun r s₃ h₃=>wpAny_bind (wpAny_letTemporaryGo (wpAny_pure h₃))) fun _ _ x=>x)
 first
  | exact wpAny_pure (wpAny_bind fin)
  | exact wpAny_bind (wpAny_pure (wpAny_bind fin))
  | exact wpAny_bind fin
theorem z1G {X:Cx} {pins:List (Addr × Obj)} {σ:St} {H:Hp} {s:Shared} {a:Addr} {y:V} {o:Option V} (I:Inv X pins σ H s) (g:DGet H a y o):s.TypeIs (.ref a) "dict":=by
 rcases g with ⟨kvs,k,e,_,_⟩ | ⟨kvs,k,b,e,_,_,_⟩
 ·obtain ⟨_,_,vs,_,dd⟩:=z35 I.hok e
  exact dd.typeIs
 ·obtain ⟨_,_,xs,_,dd⟩:=z34 I.hok e
  exact dd.typeIs
def z99 (td ty:TE):TE:=fun σ H Q=>td σ H fun x H1=>ty σ H1 fun y H2=>∃a v,x=.ref a∧DGet H2 a y (some v)∧Q v H2
def tDIn (ty td:TE):TE:=fun σ H Q=>ty σ H fun y H1=>td σ H1 fun x H2=>∃a o,x=.ref a∧DGet H2 a y o∧Q (.bl o.isSome) H2
def z9i (td ty tv:TE):TS:=fun D σ H=>tv σ H fun v H1=>td σ H1 fun x H2=>ty σ H2 fun y H3=>∃a H4,x=.ref a∧DPut H3 a y v H4∧D.nx σ H4
section
variable {X:Cx} {o i e value:Expr} {pos pos' tpos:Pos} {td ty tv:TE}
theorem z1q (hu:X.A.units+1 < cLine) (ho:PE X o td) (hi:PE X i ty) (hs:NoSl i):PE X (.Subscript o i pos) (z99 td ty):=by
 intro pins s σ H Q I h
 refine z3l PySem.F.slot_dict_getitem.lookup hs (thn (ho pins s σ H _ I h) fun u s1 ⟨x,H1,I1,rx,q1⟩=>thn (hi pins s1 σ H1 _ I1 q1) fun iv s2 zz=>?_)
 obtain ⟨y,H2,I2,ry,a,v,ex,g,q2⟩:=zz
 subst ex
 obtain rfl:u=Value.ref a:=rx
 exact ⟨z1G I2 g,z4I hu I2 g ry fun w' s3 I3 rw'=>⟨v,H2,I3,rw',q2⟩⟩
theorem z8q (hu:X.A.units+1 < cLine) (hi:PE X i ty) (ho:PE X o td):PC X .In i o (tDIn ty td):=by
 intro pins s σ H Q I h
 refine thn (hi pins s σ H _ I h) fun iv s1 ⟨y,H1,I1,ry,q1⟩=>thn (ho pins s1 σ H1 _ I1 q1) fun u s2 zz=>?_
 obtain ⟨x,H2,I2,rx,a,ov,ex,g,q2⟩:=zz
 subst ex
 obtain rfl:u=Value.ref a:=rx
 exact d_in hu I2 g ry fun s3 I3=>⟨.bl ov.isSome,H2,I3,rfl,q2⟩
theorem z72 (hu:X.A.units+1 < cLine) (ho:PE X o td) (hi:PE X i ty) (hv:PE X value tv) (hs:swapsWith value (some (.Subscript o i pos')) pos.line X.env=pure false):
  PS X (.Assign [.Subscript o i pos'] value pos) (z9i td ty tv):=by
 intro pins s σ H D I h
 refine wpAny_Assign_Subscript (thn (hv pins s σ H _ I h) fun r s1 ⟨v,H1,I1,rv,q1⟩=>thn (ho pins s1 σ H1 _ I1 q1) fun u s2 ⟨x,H2,I2,rx,q2⟩=>thn (hi pins s2 σ H2 _ I2 q2) fun iv s3 ⟨y,H3,I3,ry,a,H4,ex,g,q3⟩=>?_) hs
 subst ex
 obtain rfl:u=Value.ref a:=rx
 exact z4H hu I3 g ry rv fun s4 I4=>⟨σ,H4,I4,q3⟩
end
theorem z2i {P:Program} {w:World} {H:Hp} (h:Heap) (hb:sysModules < h.objs.size):qF P w H (h.push { cls:=.type "dict",data:=.dict #[] }) h.objs.size (.dK []):=
 ⟨Nat.zero_le _,beq_eq_false_iff_ne.mpr (Ne.symm (Nat.ne_of_lt hb)),[],.nil,Heap.DictOf.new h⟩
def z84:TE:=fun _ H Q=>∀p,H p=none→Q (.ref p) (upd H p (.dK []))
section
variable {X:Cx} {pos:Pos}
theorem z5l:PE X (.Dict [] [] pos) z84:=fun pins s σ H Q I h=>
 wpAny_Dict_empty ⟨.ref s.heap.objs.size,_,I.laid (a:=s.heap.objs.size) (o:=.dK []) (t':=s.toks) (fun _ _ q=>Heap.get?_push_of_some _ q) (kc _) (z2i s.heap I.big),rfl,h _ (I.hok.fresh (kc _))⟩
end
def z3k:List (TE × TE)→St→Hp→(List (V × V)→Hp→Prop)→Prop
 | [],_,H,Q=>Q [] H
 | (tk,tv) :: r,σ,H,Q=>tk σ H fun x H1=>tv σ H1 fun y H2=>z3k r σ H2 fun ps H3=>Q ((x,y) :: ps) H3
abbrev VV:List (V × V)→List (Value × Value)→Prop:=Paired fun p q=>RelV p.1 q.1∧RelV p.2 q.2
def PPs (X:Cx) (pos:Pos) (keys:List (Option Expr)) (values:List Expr) (trs:List (TE × TE)):Prop:=
 ∀(pins:List (Addr × Obj)) (s:Shared) (σ:St) (H:Hp) (Q:List (V × V)→Hp→Prop),Inv X pins σ H s→z3k trs σ H Q→
  wpAny (model X.prog X.w) X.A (evalPairs (pairTrees keys values X.env pos)) (fun vs s'=>∃ps H',Inv X pins σ H' s'∧VV ps vs∧Q ps H') X.xe s
theorem z3O {X:Cx} {pos:Pos}:PPs X pos [] [] []:=fun pins s σ H Q I h=>pairTrees_nil_walk ⟨[],H,I,.nil,h⟩
theorem ZC {X:Cx} {pos:Pos} {k v:Expr} {ks:List (Option Expr)} {vs:List Expr} {tk tv:TE} {trs:List (TE × TE)} (hk:PE X k tk) (hv:PE X v tv) (hr:PPs X pos ks vs trs):
  PPs X pos (some k :: ks) (v :: vs) ((tk,tv) :: trs):=fun pins s σ H Q I h=>
 pairTrees_cons_walk (thn (hk pins s σ H _ I h) fun u s1 ⟨x,H1,I1,rx,q1⟩=>thn (hv pins s1 σ H1 _ I1 q1) fun w2 s2 ⟨y,H2,I2,ry,q2⟩=>
  thn (hr pins s2 σ H2 _ I2 q2) fun ws s3 ⟨ps,H3,I3,rel,q3⟩=>⟨(x,y) :: ps,H3,I3,.cons ⟨rx,ry⟩ rel,q3⟩)
noncomputable def Qe (kvs more:List (Key × V)):List (Key × V):=more.foldl (fun acc kv=>putK acc kv.1 kv.2) kvs
theorem KV.merge:∀{more:List (Key × V)} {rs:List (Key × Value)} {kvs:List (Key × V)} {vs:List (Key × Value)},KV more rs→KV kvs vs→KV (Qe kvs more) (merged vs rs):=by
 intro more rs kvs vs r
 unfold KV at r
 induction r generalizing kvs vs with
 | nil=>intro q;exact q
 | @cons p q ps qs h t ih=>
  intro r0
  have e:KV (putK kvs p.1 p.2) (stored vs q.1 q.2):=by
   have:=r0.put p.1 h.2
   rw [←h.1];exact this
  exact ih e
theorem ZJ:∀(more kvs:List (Key × V)),(Qe kvs more).length≤kvs.length+more.length
 | [],kvs=>by show kvs.length≤kvs.length+0;lia
 | p :: r,kvs=>by
  have h1:=ZJ r (putK kvs p.1 p.2)
  have h2:=j4 kvs p.1 p.2
  show (Qe (putK kvs p.1 p.2) r).length≤_
  rw [kJ];lia
theorem Jw {P:Program} {w:World}:∀{kvs:List (Key × V)} {ws:List (Value × Value)},VV (kvs.map fun kv=>(kV kv.1,kv.2)) ws→∃rs,Carries (qj P w) ws rs∧KV kvs rs
 | [],_,r=>by rw [List.map_nil] at r;cases r;exact ⟨[],True.intro,.nil⟩
 | p :: kvs,_,r=>by
  rw [kN] at r
  cases r with
  | @cons a b as bs h t=>
   obtain ⟨rs,c,q⟩:=Jw (P:=P) (w:=w) t
   obtain ⟨b1,b2⟩:=b
   exact ⟨(p.1,b2) :: rs,⟨z1v h.1,rfl,c⟩,.cons ⟨rfl,h.2⟩ q⟩
def z98 (trs:List (TE × TE)):TE:=fun σ H Q=>∀p,H p=none→z3k trs σ (upd H p (.dK [])) fun ps H2=>H2 p=some (.dK [])∧∃kvs:List (Key × V),ps=kvs.map (fun kv=>(kV kv.1,kv.2))∧kvs.length≤15∧Q (.ref p) (upd H2 p (.dK (Qe [] kvs)))
theorem z3U {X:Cx} {pos:Pos} {keys:List (Option Expr)} {values:List Expr} {trs:List (TE × TE)} (h:PPs X pos keys values trs) (hall:keys.all (·.isSome)=true) (hl:keys.length=values.length) (h0:keys≠[])
  (h15:keys.length≤15):PE X (.Dict keys values pos) (z98 trs):=by
 intro pins s σ H Q I q
 have hn:=I.hok.fresh (kc s.heap.objs.size)
 have I1:=I.laid (a:=s.heap.objs.size) (o:=.dK []) (h':=s.heap.push { cls:=.type "dict",data:=.dict #[] }) (t':=s.toks) (fun _ _ q=>Heap.get?_push_of_some _ q) (kc _) (z2i s.heap I.big)
 refine wpAny_Dict_walk (knd:=qj X.prog X.w) hall hl h0 h15 (thn (h pins _ σ _ _ I1 (q _ hn)) fun ws s2 zz=>?_)
 obtain ⟨ps,H2,I2,rel,e,kvs,ep,lk,q2⟩:=zz
 subst ep
 obtain ⟨rs,c,rk⟩:=Jw (P:=X.prog) (w:=X.w) rel
 obtain ⟨z,hd,vs0,r0,dd⟩:=z63 I2.hok e
 cases r0
 refine ⟨rs,c,dd,fun h' dd' hs=>⟨.ref s.heap.objs.size,_,?_,rfl,q2⟩⟩
 have hz:(Qe [] kvs).length≤sizeLine:=by
  have h1:=ZJ kvs []
  rw [List.length_nil] at h1
  rw [sizeLine_eq];lia
 have he:∃q,h'.get? s.heap.objs.size=some q:=let ⟨q,_,_,hq,_⟩:=dd';⟨q,hq⟩
 exact JW I2 (by rw [e];exact True.intro) hs he (z4D hz hd (rk.merge .nil) dd')
structure M1 (X:Cx) (o:Expr) (m:Str) (apos:Pos) (e:Expr) (cpos:Pos):Prop where
 base:attributeBase o m X.env (eval o X.env)=eval o X.env
 few:((backTo cpos (starEach [e] X.env)).all (fun x=> !x.1)&&(backToKw cpos (keywordEach [] X.env)).all (fun x=>x.1.isSome)
  &&decide (([e]:List Expr).length+([]:List Keyword).length+(if ([]:List Keyword).isEmpty then 0 else 1) < 30))=true
 line:(apos.endLine == cpos.line)=true
 trees:backTo cpos (starEach [e] X.env)=[(false,eval e X.env)]
structure M2 (X:Cx) (o:Expr) (m:Str) (apos:Pos) (e f:Expr) (cpos:Pos):Prop where
 base:attributeBase o m X.env (eval o X.env)=eval o X.env
 few:((backTo cpos (starEach [e,f] X.env)).all (fun x=> !x.1)&&(backToKw cpos (keywordEach [] X.env)).all (fun x=>x.1.isSome)
  &&decide (([e,f]:List Expr).length+([]:List Keyword).length+(if ([]:List Keyword).isEmpty then 0 else 1) < 30))=true
 line:(apos.endLine == cpos.line)=true
 trees:backTo cpos (starEach [e,f] X.env)=[(false,eval e X.env),(false,eval f X.env)]
def IsD (H:Hp) (a:Addr):Prop:=(∃kvs,Rd H a (.dK kvs))∨∃kvs,Rd H a (.dT kvs)
theorem z6B {X:Cx} {pins:List (Addr × Obj)} {σ:St} {H:Hp} {s:Shared} {a:Addr} (I:Inv X pins σ H s) (d:IsD H a):
  s.TypeIs (.ref a) "dict"∧(∀b,Value.ref a=.ref b→∃ob,s.heap.get? b=some ob∧ob.dict=none)∧(a == sysModules)=false:=by
 rcases d with ⟨kvs,e⟩ | ⟨kvs,e⟩
 ·obtain ⟨_,hd,vs,_,dd⟩:=z35 I.hok e
  refine ⟨dd.typeIs,fun b q=>?_,hd⟩
  cases q
  obtain ⟨ob,_,_,h1,h2,_⟩:=dd
  exact ⟨ob,h1,h2.2.1⟩
 ·obtain ⟨_,hd,xs,_,dd⟩:=z34 I.hok e
  refine ⟨dd.typeIs,fun b q=>?_,hd⟩
  cases q
  obtain ⟨ob,_,_,h1,h2,_⟩:=dd
  exact ⟨ob,h1,h2.2.1⟩
section
variable {X:Cx} {pins:List (Addr × Obj)} {σ:St} {H:Hp} {s:Shared} {a:Addr} {y d:V} {u r:Value} {o:Option V} {A:Around} {E:Value→Shared→Prop}
theorem z8U {Q:Value→Shared→Prop} (hu:A.units+1 < cLine) (I:Inv X pins σ H s) (g:DGet H a y o) (ry:RelV y u) (h:∀w' s',Inv X pins σ H s'→RelV (o.getD .non) w'→Q w' s'):
  wpAny (model X.prog X.w) A (call (.builtin "dict.get") [.ref a,u]) Q E s:=by
 rcases g with ⟨kvs,k,e,ey,l⟩ | ⟨kvs,k,b,e,ey,eb,l⟩
 ·subst ey
  obtain ⟨z,hd,vs,rel,dd⟩:=z35 I.hok e
  refine call_meetsIn PySem.F.slot_dict_get dd.typeIs PySem.F.entry_dict_get (PySem.F.args_dict_get_2 _ _) (meets_dict_get (qj X.prog X.w) a (z1v ry) hd) ⟨_,dd.mapOf,h _ _ (I.tok _) ?_⟩
  rw [l]
  exact (rel.val k).getD rfl
 ·subst ey
  cases (show u=Value.ref b from ry)
  obtain ⟨z,hd,xs,rel,dd⟩:=z34 I.hok e
  refine call_meetsIn PySem.F.slot_dict_get dd.typeIs PySem.F.entry_dict_get (PySem.F.args_dict_get_2 _ _) (meetsH_dict_get (tupleKind (qj X.prog X.w)) a b hd) ⟨tupleKind_room_in1 hu,k,xs,z0F I.hok eb,dd,h _ _ (I.tok _) ?_⟩
  rw [l]
  exact (rel.val k).getD rfl
end
def z85 (td ty:TE):TE:=fun σ H Q=>td σ H fun x H1=>∃a,x=.ref a∧IsD H1 a∧ty σ H1 fun y H2=>∃o,DGet H2 a y o∧Q (o.getD .non) H2
section
variable {X:Cx} {o e f:Expr} {apos cpos:Pos} {td ty tx:TE}
theorem z5m (hu:X.A.units+1 < cLine) (ho:PE X o td) (he:PE X e ty) (m:M1 X o "get" apos e cpos):PE X (.Call (.Attribute o "get" apos) [e] [] cpos) (z85 td ty):=by
 intro pins s σ H Q I h
 refine wpAny_Call_method m.base m.few m.line PySem.F.plainAttrs_dict PySem.F.slot_dict_get PySem.F.type_dict_get (thn (ho pins s σ H _ I h) fun u s1 zz=>?_)
 obtain ⟨x,H1,I1,rx,a,ex,d,q1⟩:=zz
 subst ex
 obtain rfl:u=Value.ref a:=rx
 obtain ⟨t1,t2,_⟩:=z6B I1 d
 refine ⟨t1,t2,?_⟩
 rw [m.trees]
 refine Calls.callWith_builtin rfl (Calls.evalArgs_plain (Calls.spliced_cons (thn (he pins s1 σ H1 _ I1 q1) fun iv s2 ⟨y,H2,I2,ry,ov,g,q2⟩=>Calls.spliced_nil ?_)))
 exact z8U hu I2 g ry fun w' s3 I3 rw'=>⟨_,H2,I3,rw',q2⟩
end
section
variable {X:Cx} {pins:List (Addr × Obj)} {σ:St} {H:Hp} {s:Shared} {a:Addr} {kvs:List (Key × V)} {A:Around} {E:Value→Shared→Prop}
end
section
variable {X:Cx} {pins:List (Addr × Obj)} {σ:St} {H:Hp} {s:Shared} {a:Addr} {y:V} {u:Value} {A:Around} {E:Value→Shared→Prop}
end
end L2
namespace Att
open PySem PySem.W PySem.Calls PyProof.Rows
theorem J3 {P:Params} {h:Heap}:∀(ns:List Int) (vs:List Value),WellAll P h vs (ns.map WData.int)→IntsAre vs ns:=by
 intro ns
 induction ns with
 | nil=>
  intro vs w
  rw [List.map_nil] at w
  cases w
  exact .nil
 | cons n ns ih=>
  intro vs w
  rw [kN] at w
  cases w with
  | cons a b=>
   cases a
   exact .cons _ _ (ih _ b)
theorem z3F {l:OpenLaw} {n:Nat} (hn:l.most=some n) {P:Params} {h:Heap} {args:List WData} {vals:List Value}
  (hpre:l.row.toRowW.claim.pre args=true) (hwl:WellAll P h vals args):
  ∃a vs ns,vals=[Value.ref a]∧args=[WData.list (ns.map WData.int)]∧h.get? a=some { cls:=.type "list",data:=.seq vs.toArray }∧IntsAre vs ns∧ns.length≤n:=by
 have hsh:WShape.hasAll [] args [.list .int]=true:=(pre_splitW hpre).1
 have hc:l.pre.holds [] { args:=args }=true:=(pre_splitW hpre).2
 obtain ⟨d,r,rfl,h1,h2⟩:=hasAllW_cons hsh
 obtain rfl:=hasAllW_nil h2
 obtain ⟨xs,rfl,h3⟩:=hasW_list h1
 obtain ⟨ns,rfl⟩:=items_int h3
 have hlen:ns.length≤n:=by
  unfold OpenLaw.pre at hc
  have h4:(WTm.not (.lt (.lit (.int (n:Int))) (.len (.arg 0)))).holds [] { args:=[.list (ns.map .int)] }=true:=by
   have h4:=(holds_andW hc).1
   rw [hn] at h4
   exact h4
  have h5:=condW_of h4 (w_not (w_lt w_lit (w_len_list (w_arg rfl))))
  rw [kg] at h5
  refine Nat.le_of_not_lt fun q=>?_
  have q':(n:Int) < ((ns.length:Nat):Int):=by lia
  first
   | (rw [kf q'] at h5;exact absurd h5 (by decide))
   | (simp at h5;lia)
 cases hwl with
 | cons w1 w2=>
  cases w2
  cases w1 with
  | list ho hall=>exact ⟨_,_,ns,rfl,rfl,ho,J3 ns _ hall,hlen⟩
theorem z3P (l:OpenLaw) (args:List WData):l.row.toRowW.claim.post args (.bool true) args=true:=
 postW_of (r:=l.row.toRowW) (X:=(true == true))
  (show WShape.has [] (.bool true) .bool=true by first | rfl | decide | simp [WShape.has,WShape.arms,WShape.armsAll])
  (show (WTm.eq .res (.lit (.bool true))).value [] { args:=args,res:=some (.bool true),after:=args }=some (.bool (true == true)) from w_eq_bool (w_res rfl) w_lit) rfl
theorem attach_call {l:OpenLaw} {n:Nat} {q:Program} {loose:List Str} {XP:(Str→Option Value)→Heap→Prop} {YP:World→Heap→Prop} {d:DefRec}
  (hn:l.most=some n) (hdf:d.params.defaults=[])
  (call:∀(w:World) (s₀ s₁:Shared) (mg mb:Str→Option Value) (fa:Addr) (o:Obj) (pm cd doc:Value) (a:Addr) (vs:List Value) (ns:List Int),
   Ground q loose [] XP w s₀ mg mb s₁.heap→YP w s₁.heap→
   s₁.heap.get? fa=some o→o.data=.func (docDef d.name d.params d.body d.scope pm cd doc)→s₁.heap.CodeRec cd d.name→mg d.name=some (.ref fa)→
   s₁.heap.get? a=some { cls:=.type "list",data:=.seq vs.toArray }→IntsAre vs ns→ns.length≤n→s₁.gens=#[]→
   codeAny (model l.prog w) callerA (.call (.ref fa) ⟨[.ref a],[]⟩) (fun r s'=>r=.ok (.ret (.bool true))∧OldK s₁.heap s'.heap∧s'.os=s₁.os∧AllBare s'.gens) s₁):
  WalkO q loose XP YP l.row.toRowW d [] (fun f vs=>PySem.call f vs):=by
 intro w s₀ s₁ mg mb G Y fa o pm cd doc dV kV ho hd hcd hD hmg hg args vals as hpre hlay hrd hwl hlo
 obtain rfl:dV=.none:=Dflts.none hD hdf
 obtain rfl:kV=.none:=Dflts.noKw hD
 obtain ⟨a,vs,ns,rfl,rfl,hobj,hints,hlen⟩:=z3F hn hpre hwl
 refine enter_call (codeAny_mono (call w s₀ s₁ mg mb fa o pm cd doc a vs ns G Y ho (fd_plain hd) hcd hmg hobj hints hlen hg) fun r s' hq=>?_)
 obtain ⟨rfl,h2,h3,h4⟩:=hq
 exact ⟨.inl ⟨.bool true,.bool true,[],rfl,fun _=>rfl,.bool true,z3P l _,fun _=>⟨List.Pairwise.nil,fun _ hm=>(nomatch hm)⟩⟩,h2,h3,h4⟩
section
variable {prog:Program} {w:World} {A:Around} {E:Value→Shared→Prop} {s:Shared} {K:Frag}
end
end Att
namespace L2
open PySem PySem.Spec PyProof.Rows
theorem z04:∀{vs:List Value} {ns:List Int},IntsAre vs ns→Vals (ns.map V.int) vs
 | _,_,.nil=>.nil
 | _,_,.cons n t h=>.cons ⟨t,rfl⟩ (z04 h)
def Only (H:Hp):Prop:=∀b,H b=none∨∃o xs,H b=some (.frz o (.lst xs))
theorem z5C {P:Program} {w:World} {K:kn} {mg mb:Str→Option Value} {CX:CXT} {k:Nat} {fa a:Addr} {fd:FuncData} {x:Str} {sp:Sp} {s₁:Shared} {vs:List Value} {ns:List Int}
  (KX:K.In s₁.heap) (hns:s₁.heap.Ns mainGlobals mg) (hb:s₁.heap.Ns builtinsNs mb) (hbb:∀x:Str,x≠"__name__"→mb x=bootBuiltins x) (hlim:s₁.heap.NoLimit) (hg:s₁.gens=#[])
  (ha:s₁.heap.get? a=some { cls:=.type "list",data:=.seq vs.toArray }) (hi:IntsAre vs ns) (hl:ns.length≤sizeLine) (hr:Room k callerA)
  (F:∀base:Heap,K.In base→base.Ns mainGlobals mg→FnOk P w K mg base CX k fa fd [x] sp) (hbind:∀(s:Shared) (u:Value),BindsTo s fd ⟨[u],[]⟩ [(x,u)])
  (hsp:∀H:Hp,Only H→SqL K H a (ns.map V.int)→sp [.ref a] H (fun v _=>v=.bl true) fun _ _ _=>False)
  (hCX:∀H e s',CX [] H s₁ (fun _ _ _=>False) e s'→False):
  codeAny (model P w) callerA (.call (.ref fa) ⟨[.ref a],[]⟩) (fun r s'=>r=.ok (.ret (.bool true))∧OldK s₁.heap s'.heap∧s'.os=s₁.os∧AllBare s'.gens) s₁:=by
 have rv:=z04 hi
 have lenV:=hi.length
 have core:∀H:Hp,Only H→SqL K H a (ns.map V.int)→HOk P w H s₁.heap→(∀b,H b≠none→b=a)→(H a≠none→K.lookup a=none)→
   codeAny (model P w) callerA (.call (.ref fa) ⟨[.ref a],[]⟩) (fun r s'=>r=.ok (.ret (.bool true))∧OldK s₁.heap s'.heap∧s'.os=s₁.os∧AllBare s'.gens) s₁:=by
  intro H hO hS hok hA hK
  have base_of:∀{b:Addr} {o:Obj},s₁.heap.get? b=some o→H b=none→(hidT s₁.heap H).get? b=some o:=fun e n=>z5G e n
  have noA:∀{b:Addr} {o:Obj} {es:Array DictEntry} {ep:Nat},s₁.heap.get? b=some o→o.data=.dict es ep→H b=none:=fun {b o es ep} e d=>by
   cases q:H b with
   | none=>rfl
   | some u=>
    have e':b=a:=hA b (by rw [q];simp)
    subst e'
    rw [ha] at e;cases e
    have d':Data.seq vs.toArray _=Data.dict es ep:=d
    cases d'
  have nsK:∀{b:Addr} {m:Str→Option Value},s₁.heap.Ns b m→(hidT s₁.heap H).Ns b m:=fun {b m} ⟨o,es,ep,e,d,r⟩=>⟨o,es,ep,base_of e (noA e d),d,r⟩
  have hKb:K.In (hidT s₁.heap H):=fun b o e=>base_of (KX b o e) (by
   cases q:H b with
   | none=>rfl
   | some u=>
    have e':b=a:=hA b (by rw [q];simp)
    subst e'
    rw [hK (by rw [q];simp)] at e;cases e)
  have hM:Mod K mg (hidT s₁.heap H):=⟨hKb,nsK hns,⟨mb,nsK hb,hbb⟩,let ⟨mc,h1,h2⟩:=hlim;⟨mc,nsK h1,h2⟩⟩
  have e0:Env0 P w K mg (hidT s₁.heap H) callerA [] s₁ H:=⟨rfl,hM,fun b o e=>z7a e,kQ (z4n _ _),trivial,fun b hb=>absurd (show b∈([]:List Addr) from hb) (by simp),hok,.of_eq hg⟩
  refine codeAny_mono ((F _ hKb (nsK hns)).run callerA [] s₁ H ⟨[.ref a],[]⟩ [.ref a] [.ref a] _ _ hr e0 (hbind s₁ (.ref a)) (.cons rfl .nil) (hsp H hO hS)) fun r s' h=>?_
  cases r with
  | error e=>exact (hCX H e s' h).elim
  | ok fl=>
   cases fl with
   | next=>exact False.elim h
   | brk=>exact False.elim h
   | cont=>exact False.elim h
   | ret u=>
    obtain ⟨v,H',os,bare,un,hok',r',q⟩:=h
    have q':v=.bl true:=q
    subst q'
    obtain rfl:u=Value.bool true:=r'
    refine ⟨rfl,OldK.of_keep fun b o e=>?_,os,bare⟩
    cases q:H b with
    | none=>exact un.keep b o e q (by intro z;exact absurd (show b∈([]:List Addr) from z) (by simp)) (by simp)
    | some u=>
     rcases hO b with z | ⟨ob,xs,z⟩
     ·rw [q] at z;cases z
     ·have z2:=un.frzs b ob _ z
      obtain ⟨e1,_⟩:=hok b _ z
      obtain ⟨e2,_⟩:=hok' b _ z2
      rw [e] at e1;cases e1
      exact e2
 cases hk:K.lookup a with
 | some o=>
  have e:=KX a o hk
  rw [ha] at e
  cases e
  refine core (fun _=>none) (fun _=>.inl rfl) (.inr ⟨_,vs.toArray,_,hk,rfl,rfl,rfl,by rw [kx,lenV];exact hl,by simpa using rv⟩) (fun b u z=>by have z':(none:Option HO)=some u:=z;cases z') (fun b z=>absurd rfl z) fun z=>absurd rfl z
 | none=>
  refine core (fun b=>if b=a then some (.frz { cls:=.type "list",data:=.seq vs.toArray } (.lst (ns.map V.int))) else none) (fun b=>?_) (.inl (.inr ⟨{ cls:=.type "list",data:=.seq vs.toArray },kq rfl⟩)) (fun b u z=>?_) (fun b z=>?_) fun _=>hk
  ·by_cases hb:b=a
   ·exact .inr ⟨_,_,kq hb⟩
   ·exact .inl (ko hb)
  ·by_cases hb:b=a
   ·have z':=(kq hb).symm.trans z
    cases z'
    subst hb
    exact ⟨ha,by rw [kg];exact hl,vs,_,rv,ha⟩
   ·have z':=(ko hb).symm.trans z
    cases z'
  ·by_cases hb:b=a
   ·exact hb
   ·exact absurd (ko hb) z
end L2
namespace L2
open PySem PySem.Spec PyProof.Rows
theorem z6M {l:PySem.W.OpenLaw} {n k:Nat} {q:Program} {loose:List Str} {XP:(Str→Option Value)→Heap→Prop} {YP:World→Heap→Prop} {d:DefRec} {K:Params→kn} {CX:World→CXT} {sp:World→Sp} {x:Str}
  (hn:l.most=some n) (hn2:n≤sizeLine) (hdf:d.params.defaults=[]) (hr:Room k callerA)
  (hY:∀(w:World) (h:Heap),YP w h→(K w.params).In h)
  (F:∀(w:World) (mg:Str→Option Value) (fa:Addr) (h:Heap),(K w.params).In h→h.Ns mainGlobals mg→mg d.name=some (.ref fa)→
   ∃fd:FuncData,(∀(s:Shared) (u:Value),BindsTo s fd ⟨[u],[]⟩ [(x,u)])∧
    ∀base:Heap,(K w.params).In base→base.Ns mainGlobals mg→FnOk l.prog w (K w.params) mg base (CX w) k fa fd [x] (sp w))
  (hsp:∀(w:World) (H:Hp) (a:Addr) (ns:List Int),ns.length≤n→Only H→SqL (K w.params) H a (ns.map V.int)→sp w [.ref a] H (fun v _=>v=.bl true) fun _ _ _=>False)
  (hCX:∀(w:World) (H:Hp) (s:Shared) (e:Value) (s':Shared),CX w [] H s (fun _ _ _=>False) e s'→False):
  PySem.W.WalkO q loose XP YP l.row.toRowW d [] (fun f vs=>PySem.call f vs):=by
 refine Att.attach_call hn hdf fun w s₀ s₁ mg mb fa o pm cd doc a vs ns G Y ho hd hcd hmg hobj hints hlen hg=>?_
 have KX:=hY w _ Y
 obtain ⟨fd,hb,hF⟩:=F w mg fa _ KX G.T.g hmg
 exact z5C KX G.T.g G.T.b G.T.builtins G.T.nolimit hg hobj hints (km hlen hn2) hr hF hb (fun H hO hS=>hsp w H a ns hlen hO hS) fun H e s'=>hCX w H s₁ e s'
end L2
namespace L2
open PySem PySem.Spec PyProof.Rows
noncomputable def qH (s:Stmt):Arguments:=match s with
 | .FunctionDef _ a _ _ _ _ _ _ _ _=>a
 | _=>{ posonlyargs:=[],args:=[],vararg:=none,kwonlyargs:=[],kw_defaults:=[],kwarg:=none,defaults:=[] }
noncomputable def zV (s:Stmt):List Stmt:=match s with
 | .FunctionDef _ _ b _ _ _ _ _ _ _=>b
 | _=>[]
noncomputable def ze (s:Stmt):Scope:=match s with
 | .FunctionDef _ _ _ _ _ _ sc _ _ _=>sc
 | _=>{ kind:=.function,names:=[],isGenerator:=false,isCoroutine:=false }
abbrev CX0:CXT:=fun _ _ _ _ _ _=>False
abbrev E0:XK:=fun _ _ _=>False
theorem z76 {X:Cx}:z53 CX0 X E0:=fun _ _ _ _ _ _ _ h=>h.elim
structure Fun (K:kn) (x qual:Str) (st:Stmt) (f:Addr) (fd:FuncData):Prop where
 ex:∃(oc:Value) (od:Option Addr) (kV doc pm:Value) (an:Option Addr) (cdv ct:Value) (osl:Array (Option Value)),
  fd=PySem.W.fnOf x qual (qH st) (zV st) (ze st) .none kV doc pm an cdv ct∧K.lookup f=some ⟨oc,od,.func fd,osl⟩∧PySem.W.codeIn K cdv qual=true
 kp:PySem.W.keepIn K (.ref f)=true
section
variable {P:Program} {w:World} {K:kn} {mg:Str→Option Value} {base:Heap}
theorem Fun.ok {x qual:Str} {st:Stmt} {f:Addr} {fd:FuncData} {N ps:List Str} {k:Nat} {sp:Sp} (F:Fun K x qual st f fd) (S:zn N ps (ze st)) (len:∀vs H Q E,sp vs H Q E→vs.length=ps.length)
  (hbody:∀(cdv:Value) (A:Around) (outer:List Env) (s:Shared) (H:Hp) (vs:List V) (Q:VK) (E:XK),Room k (A.deeper (envOfC qual (ze st) s.heap.objs.size f cdv))→sp vs H Q E→
   ∃t,PSs (cxOf CX0 P w K mg base N qual (ze st) f cdv A outer s H E).nox (zV st) t∧t { nx:=fun _ H'=>Q .non H',rt:=Q } (Zo N vs) H):FnOk P w K mg base CX0 (k+1) f fd ps sp:=by
 obtain ⟨oc,od,kV,doc,pm,an,cdv,ct,osl,rfl,lk,hcd⟩:=F.ex
 refine z8N lk hcd S len fun A outer s H vs Q E hr hsp=>?_
 obtain ⟨t,h,q⟩:=hbody cdv A outer s H vs Q E hr hsp
 exact ⟨t,h.nox,q⟩
theorem Fun.binds {x qual:Str} {st:Stmt} {f:Addr} {fd:FuncData} {ps:List Str} (F:Fun K x qual st f fd)
  (h:∀(kV doc pm:Value) (an:Option Addr) (cdv ct:Value) (us:List Value),us.length=ps.length→bindArgs (PySem.W.fnOf x qual (qH st) (zV st) (ze st) .none kV doc pm an cdv ct) ⟨us,[]⟩=pure (ps.zip us)):Jg K fd ps []:=by
 obtain ⟨oc,od,kV,doc,pm,an,cdv,ct,osl,rfl,lk,hcd⟩:=F.ex
 exact .all (h kV doc pm an cdv ct)
theorem z6C {x qual:Str} {st:Stmt} {f:Addr} {oc:Value} {od an:Option Addr} {osl:Array (Option Value)} {kV doc pm cdv ct:Value} (l:K.lookup f=some ⟨oc,od,.func (PySem.W.fnOf x qual (qH st) (zV st) (ze st) .none kV doc pm an cdv ct),osl⟩)
  (c:PySem.W.codeIn K cdv qual=true) (k:PySem.W.keepIn K (.ref f)=true):Fun K x qual st f (PySem.W.fnOf x qual (qH st) (zV st) (ze st) .none kV doc pm an cdv ct):=⟨⟨oc,od,kV,doc,pm,an,cdv,ct,osl,rfl,l,c⟩,k⟩
end
theorem z5F {A:Around} {k:Nat} (hr:Room k A):A.units+1 < cLine:=Nat.lt_of_le_of_lt (Nat.add_le_add_left (by decide:1≤64) _) hr.units
theorem qh {n:Nat} (h:n≤1000):n < sizeLine:=Nat.lt_of_le_of_lt h (by decide)
section
variable {X:Cx}
theorem pv (i:Nat) {x:Str} {pos:Pos} (hN:autoParam (X.N[i]?=some x) aR._auto_1) (hv:Vis X.env.scope x:=by first | exact Or.inl rfl | exact Or.inr (Or.inl rfl) | exact Or.inr (Or.inr rfl)) (hd:autoParam ((x == ("__debug__":Str))=false) aR._auto_2)
  (hcd:autoParam ((x == ("__classdict__":Str))=false) aR._auto_2):PE X (.Name x pos) (tVar i):=z8n hN hv hd hcd
end
theorem iteF {A B:Prop} (h:B):if false=true then A else B:=by
 rw [ko ka]
 exact h
theorem iteT {A B:Prop} (h:A):if true=true then A else B:=by
 rw [kq rfl]
 exact h
theorem ite2 {c A B:Prop} [Decidable c] (h1:c→A) (h2:¬c→B):if c then A else B:=by
 by_cases h:c
 ·rw [kq h]
  exact h1 h
 ·rw [ko h]
  exact h2 h
def Same (H H':Hp):Prop:=∀b o,H b=some o→H' b=some o
theorem Same.refl (H:Hp):Same H H:=fun _ _ h=>h
theorem Same.trans {H H1 H2:Hp} (a:Same H H1) (b:Same H1 H2):Same H H2:=fun c o h=>b c o (a c o h)
theorem Same.free {H H':Hp} (e:Same H H') {l:Addr} (h:H' l=Option.none):H l=Option.none:=by
 cases q:H l with
 | none=>rfl
 | some o=>
  rw [e l o q] at h
  cases h
theorem Same.seq {K:kn} {H H':Hp} {a:Addr} {xs:List V} (e:Same H H') (h:SqL K H a xs):SqL K H' a xs:=by
 rcases h with (h | ⟨o,h⟩) | h
 ·exact .inl (.inl (e _ _ h))
 ·exact .inl (.inr ⟨o,e _ _ h⟩)
 ·exact .inr h
section
variable {κ:Type} [DecidableEq κ]
end
end L2
set_option genInjectivity false
set_option maxRecDepth 100000
set_option maxHeartbeats 4000000
namespace L2
open PySem PySem.Spec PyProof.Rows
theorem z1H {prog:Program} {w:World} {A:Around} {R:Result→Shared→Prop} {s:Shared} {elt target iter:Expr} {scope:Scope} {pos:Pos} {it acc:Value} {env:Env} (I:Nat→Shared→Prop)
  (turn:∀n s,I n s→wpAny (model prog w) A (pyNext it) (fun r s₁=>match r with
   | none=>R (.ok .next) s₁
   | some v=>wpAny (model prog w) A (letOwnedTupleGo target it v) (fun _ s₁'=>wpAny (model prog w) A (assign target env v) (fun _ s₂=>wpAny (model prog w) A (eval elt env) (fun x s₃=>
     wpAny (model prog w) A (call (.builtin "list.append") [acc,x]) (fun _ s₄=>∃m,m < n∧I m s₄) (fun _ _=>False) s₃)
     (fun _ _=>False) s₂) (fun _ _=>False) s₁') (fun _ _=>False) s₁) (fun _ _=>False) s)
  (n:Nat) (h:I n s):codeAny (model prog w) A (.compLoop (.ListComp elt [⟨target,iter,[],0⟩] scope pos) 0 it acc env) R s:=by
 refine codeAny_loop rfl I (fun n s hI=>?_) n h
 show wpAny _ _ ((compTurn (.ListComp elt [⟨target,iter,[],0⟩] scope pos) 0 it acc env).onRaise (fun x=>do noteFrame x env;theTreesLotGoes x)) _ _ s
 refine wpAny_noted ?_
 rw [compTurn_list1]
 refine wpAny_bind (wpAny_standAt (wpAny_bind (wpAny_mono (turn n s hI) (fun r s₁ h₁=>?_) fun _ _ h'=>h'.elim)))
 cases r with
 | none=>exact wpAny_pure h₁
 | some v=>
  refine wpAny_bind (wpAny_mono h₁ (fun _ s₁' h₁'=>?_) fun _ _ h'=>h'.elim)
  exact wpAny_bind (wpAny_mono h₁' (fun _ s₂ h₂=>wpAny_bind (wpAny_bind (wpAny_mono h₂ (fun x s₃ h₃=>wpAny_bind (wpAny_mono h₃
   (fun _ s₄ h₄=>wpAny_pure (wpAny_pure ⟨rfl,h₄⟩)) fun _ _ h'=>h'.elim)) fun _ _ h'=>h'.elim))) fun _ _ h'=>h'.elim)
noncomputable abbrev ZR (X:Cx) (x:Str) (scope:Scope) (s:Shared) (H:Hp) (fp:List Addr) (C:Addr):Cx where
 prog:=X.prog
 w:=X.w
 K:=X.K
 mg:=X.mg
 base:=X.base
 A:=X.A
 N:=[x]
 s₀:=s
 H₀:=H
 env:=compEnv scope C X.env
 outer:=X.stack
 stack:=X.stack
 ex:=fp
 fn:=fun _=>true
 calm:=true
 pn:=[]
 xe:=fun _ _=>False
structure z17 (x:Str) (scope:Scope):Prop where
 nofree:∀y∈scope.names,y.2≠.free
 nocell:∀y∈scope.names,y.2≠.cell
 kind:scope.kind=.function
 names:∀y∈scope.names,y.2=.local→scope.names.lookup y.1=some .local
 hx:scope.names.lookup x=some .local
def z9a (wi:TI) (te:TE):TE:=fun σ H Q=>wi σ H fun J H1=>∀l,H1 l=none→∃W:Nat→Nat→List V→Hp→Prop,(∃m,W 0 m [] (upd H1 l (.lst [])))∧∀i m ys H2,W i m ys H2→
 (J.stop i H2∧Q (.ref l) H2)∨(J.go i H2∧∀x H3,J.yld i H2 x H3→te [some x] H3 fun v H4=>H4 l=some (.lst ys)∧ys.length < sizeLine∧∃m',m' < m∧W (i+1) m' (ys++[v]) (upd H4 l (.lst (ys++[v]))))
theorem ZI {names:List (Str × NameKind)} {k:NameKind} (h:∀y∈names,y.2≠k) (x:Str):names.lookup x≠some k:=fun e=>h _ (PySem.mem_of_lookup e) rfl
theorem Jn {scope:Scope} {env:Env} (h:∀y∈scope.names,y.2≠.free):relabel scope env=scope:=by
 unfold relabel
 rw [map_eq_self (l:=scope.names) (fun x hx=>by
  obtain ⟨n,k⟩:=x
  have:(k == NameKind.free)=false:=by simpa using h _ hx
  simp [this])]
section
variable {X:Cx}
theorem z38 {elt iter:Expr} {x:Str} {px:Pos} {scope:Scope} {pos:Pos} {pins:List (Addr × Obj)} {σ:St} {H:Hp} {s:Shared} {it:Addr} {fp:List Addr} {tn:Nat→Heap→Prop} {J:It} {te:TE} {Q:VK} {E:Value→Shared→Prop}
  {RR:Value→Addr→Result→Shared→Prop}
  (hc:X.calm=true) (sc:z17 x scope) (I:Inv X pins σ H s) (T:Turn X.prog X.w X.K (.Name x px) J fp it tn) (st:tn 0 s.heap) (hf:∀b∈fp,FpOk X pins H b)
  (he:∀(s:Shared) (H:Hp) (fp:List Addr) (C:Addr),PE (ZR X x scope s H fp C) elt te)
  (h:∀l,H l=none→∃W:Nat→Nat→List V→Hp→Prop,(∃m,W 0 m [] (upd H l (.lst [])))∧∀i m ys H2,W i m ys H2→
   (J.stop i H2∧Q (.ref l) H2)∨(J.go i H2∧∀x H3,J.yld i H2 x H3→te [some x] H3 fun v H4=>H4 l=some (.lst ys)∧ys.length < sizeLine∧∃m',m' < m∧W (i+1) m' (ys++[v]) (upd H4 l (.lst (ys++[v])))))
  (hRR:∀D C s' H' m,Inv X pins σ H' s'→s'.heap.Ns C m→C≠X.env.locals→H' C=none→X.s₀.heap.objs.size≤C→(∀x c,X.env.cells.lookup x=some c→c≠C)→(∀p∈X.pn++pins,p.1≠C)→Q (.ref D) H'→RR (.ref D) C (.ok .next) s'):
  wpAny (model X.prog X.w) X.A (newList []) (fun acc s₃=>wpAny (model X.prog X.w) X.A (newFunctionEnv scope X.env.globals [] [] X.env.qual none .none (some X.env)) (fun cenv s₄=>
   codeAny (model X.prog X.w) X.A (.compStart (.ListComp elt [⟨.Name x px,iter,[],0⟩] scope pos) 0 (.ref it) acc { cenv with scope:=relabel scope X.env }) (RR acc cenv.locals) s₄) E s₃) E s:=by
 refine wpAny_newObj_type ?_
 have I3:Inv X pins σ (upd H s.heap.objs.size (.lst [])) { s with heap:=s.heap.push { cls:=.type "list",data:=.seq ([]:List Value).toArray } }:=I.lnew (ys:=[]) (its:=[]) (t':=s.toks) .nil (Nat.zero_le _)
 have st3:tn 0 (s.heap.push { cls:=.type "list",data:=.seq ([]:List Value).toArray }):=T.keep _ _ _ st fun b hb o e=>Heap.get?_push_of_some _ e
 have fpl:∀b∈fp,b < s.heap.objs.size:=fun b hb=>by
  obtain ⟨o,e,_⟩:=T.obj _ _ st b hb
  exact Heap.lt_size e
 obtain ⟨W,⟨m0,w0⟩,turn⟩:=h s.heap.objs.size I.fresh
 have hf3:∀b∈fp,FpOk X pins (upd H s.heap.objs.size (.lst [])) b:=fun b hb=>⟨by rw [zl (Nat.ne_of_lt (fpl b hb))];exact (hf b hb).1,(hf b hb).2⟩
 generalize hD:s.heap.objs.size=D at *
 generalize hH3:upd H D (HO.lst [])=H3 at *
 generalize hs3:({ s with heap:=s.heap.push { cls:=.type "list",data:=.seq ([]:List Value).toArray } }:Shared)=s3 at *
 have hsz3:s3.heap.objs.size=D+1:=by rw [←hs3,←hD];exact Heap.size_push ..
 have st3':tn 0 s3.heap:=by rw [←hs3];exact st3
 refine wpAny_newFunctionEnv (s:=s3) sc.nocell (by intro y hy;simp at hy) (fun h1 hns hsb=>?_) sc.kind
 generalize hC:s3.heap.objs.size=C at *
 have kept:∀b o,s3.heap.get? b=some o→h1.get? b=some o:=fun b o e=>hsb.extBut b o (by rw [←hC];exact Nat.ne_of_lt (Heap.lt_size e)) (Heap.get?_push_of_some _ e)
 have rel:relabel scope X.env=scope:=Jn sc.nofree
 show codeAny (model X.prog X.w) X.A (.compStart (.ListComp elt [⟨.Name x px,iter,[],0⟩] scope pos) 0 (.ref it) (.ref D) { compEnv scope C X.env with scope:=relabel scope X.env }) (RR (.ref D) C) _
 rw [rel]
 show codeAny (model X.prog X.w) X.A (.compStart (.ListComp elt [⟨.Name x px,iter,[],0⟩] scope pos) 0 (.ref it) (.ref D) (compEnv scope C X.env)) (RR (.ref D) C) { s3 with heap:=h1,toks:=s3.toks+0 }
 have fpC:∀b∈fp,b≠C:=fun b hb=>Nat.ne_of_lt (kG (fpl b hb) (by rw [hsz3];exact Nat.le_succ D))
 have kind:∀y,Env.kindOf (compEnv scope C X.env) y=scope.names.lookup y:=fun _=>rfl
 have ok:(ZR X x scope s3 H3 fp C).Ok:={
  mod:=I.ok.mod,kind:=sc.kind,glob:=I.ok.glob,blt:=I.ok.blt,above:=kQ hC
  inj:=fun y z c e _=>nomatch e
  has:=fun y hy=>by
   rcases hy with hy | hy
   ·exact absurd hy (ZI sc.nocell y)
   ·exact absurd hy (ZI sc.nofree y)
  cab:=fun y c _ e=>nomatch e
  hd:=fun _=>I.ok.hd hc
  frames:=I.ok.frames
  stk:=.inl rfl
  exf:=fun b hb=>⟨fpC b hb,fun y c e=>nomatch e⟩
  bs:=I3.bs
  bsz:=km I.ok.bsz I3.sz
  noex:=fun b o e hb=>by
   obtain ⟨_,_,_,h4,_⟩:=hf3 b hb
   rcases h4 with z | z
   ·exact I.ok.noex b o e z
   ·exact absurd (kG (Heap.lt_size (I.ok.bs b o e).1) z) (Nat.lt_irrefl _)
  exfs:=fun b hb z=>by
   obtain ⟨_,h1,h2,_⟩:=hf3 b hb
   rcases kw.mp (I3.stkSub b z) with q | q
   ·exact h1 q
   ·exact h2 q
  funs:=I3.stack
  frf:=I3.stkFree }
 have I4:Inv (ZR X x scope s3 H3 fp C) [] [none] H3 { s3 with heap:=h1,toks:=s3.toks+0 }:={
  ok:=ok,os:=rfl,bare:=I3.bare,base:=Un.kept kept
  loc:=⟨_,hns,fun i y v _ e2 _=>by
   cases i with
   | zero=>cases e2
   | succ i=>cases e2⟩
  cell:=fun y c e=>nomatch e
  free:=I3.hok.fresh (kQ hC)
  freeC:=fun y c e=>nomatch e
  pin:=fun p hp=>absurd (show p∈([]:List (Addr × Obj)) from hp) (by simp)
  hok:=I3.hok.kept kept
  len:=rfl }
 have st4:tn 0 h1:=T.keep _ _ _ st3' fun b hb o e=>kept b o e
 have stat:∀{H':Hp},(∀b∈fp,H' b=none)→∀b∈fp,FpOk (ZR X x scope s3 H3 fp C) [] H' b:=fun hn b hb=>⟨hn b hb,fpC b hb,ok.exfs b hb,.inl hb,(fun y c e=>by cases (show (none:Option Addr)=some c from e)),fun p hp=>absurd (show p∈([]:List (Addr × Obj)) from hp) (by simp)⟩
 have loop:codeAny (model X.prog X.w) X.A (.compLoop (.ListComp elt [⟨.Name x px,iter,[],0⟩] scope pos) 0 (.ref it) (.ref D) (compEnv scope C X.env)) (RR (.ref D) C) { s3 with heap:=h1,toks:=s3.toks+0 }:=by
  refine z1H (fun n s'=>∃i ys σ' H',Inv (ZR X x scope s3 H3 fp C) [] σ' H' s'∧tn i s'.heap∧(∀b∈fp,H' b=none)∧W i n ys H'∧σ'.length=1) ?_ m0 ⟨0,[],[none],H3,I4,st4,fun b hb=>(hf3 b hb).1,w0,rfl⟩
  rintro n s5 ⟨i,ys,σ5,H5,I5,st5,fr5,w5,l5⟩
  rcases turn i n ys H5 w5 with ⟨stop,qn⟩ | ⟨go,step⟩
  ·refine thn (T.done (ZR X x scope s3 H3 fp C) rfl rfl rfl rfl i [] s5 σ5 H5 _ I5 (stat fr5) st5 stop) fun r s6 zz=>?_
   obtain ⟨hr,I6⟩:=zz
   subst hr
   obtain ⟨m6,n6,_⟩:=I6.loc
   refine hRR D C s6 H5 m6 (I3.call' I6.os I6.base I6.hok I6.bare fun b hb=>?_) n6 (Nat.ne_of_gt (by have:=I3.lt;rw [hC] at this;exact this)) I6.free (by have:=I3.sz;rw [hC] at this;exact this) (fun y c e z=>?_) (fun p hp z=>?_) qn
   ·obtain ⟨_,h1,_,h4,h5,h6⟩:=hf3 b hb
    exact ⟨h4,h1,h5,h6⟩
   ·obtain ⟨v,q⟩:=I3.cell y c e
    have:=q.lt
    rw [hC,z] at this
    exact Nat.lt_irrefl _ this
   ·have:=Heap.lt_size (I3.pin p hp).1
    rw [hC,z] at this
    exact Nat.lt_irrefl _ this
  ·refine thn (T.item (ZR X x scope s3 H3 fp C) rfl rfl rfl rfl i [] s5 σ5 H5 _ I5 (stat fr5) st5 go) fun r s6 zz=>?_
   obtain ⟨u,hr,h6⟩:=zz
   subst hr
   refine thn h6 fun _ s7 zz=>?_
   obtain ⟨v,H7,I7,r7,y7,st7,fr7⟩:=zz
   have I7':=I7.pinned (stat fr7) (T.obj _ _ st7)
   refine wpAny_assign_Name (Zx (X:=ZR X x scope s3 H3 fp C) (i:=0) I7' (by simp) rfl (.inl sc.hx) r7 (fun s8 I8=>?_) (.inl rfl))
   have e8:σ5.set 0 (some v)=[some v]:=by
    match σ5,l5 with
    | [_],_=>rfl
   rw [e8] at I8
   refine thn (he s3 H3 fp C _ s8 [some v] H7 _ I8 (step v H7 y7)) fun yv s9 zz=>?_
   obtain ⟨y,H9,I9,r9,q9⟩:=zz
   obtain ⟨hl9,hz9,m',hm',w9⟩:=q9
   obtain ⟨z9,its,k9,rv9,ll9,e9⟩:=I9.lstM hl9
   refine call_meets F.slot_list_append ⟨_,e9,rfl⟩ F.entry_list_append (F.args_list_append_2 _ _) (PySem.list_append D its.toArray k9 yv (by rw [kx];lia)) ⟨e9,?_⟩
   have I10:=I9.lset (t':=s9.toks) (its':=its++[yv]) (f:=(·.push yv)) hl9 e9 (by simp) (rv9.append (.cons r9 .nil)) (by rw [kh,ky];lia)
   refine ⟨m',hm',i+1,ys++[y],[some v],_,I10.unpinned (pins:=[]),T.keep _ _ _ st7 fun b hb o e=>(I10.pin (b,o) (kH _ (kH _ (jl hb e)))).1,fun b hb=>?_,w9,rfl⟩
   obtain ⟨o,e,d⟩:=T.obj _ _ st7 b hb
   exact (I10.pin (b,o) (kH _ (kH _ (jl hb e)))).2.1
 exact codeAny_compStart_list loop (T.self _ 0 _ _ _ st4 loop)
theorem z74 {elt iter:Expr} {x:Str} {px:Pos} {scope:Scope} {pos:Pos} {wi:TI} {te:TE} (hc:X.calm=true) (sc:z17 x scope) (hi:PI X (.Name x px) iter wi)
  (he:∀(s:Shared) (H:Hp) (fp:List Addr) (C:Addr),PE (ZR X x scope s H fp C) elt te) (hs:∀x,foldedSetIterable iter X.env x=pure x:=by intro _;rfl):
  PE X (.ListComp elt [⟨.Name x px,iter,[],0⟩] scope pos) (z9a wi te):=by
 intro pins s σ H Q I h
 rw [eval_ListComp]
 refine wpAny_comprehension_free (use:=none) rfl hs (closureFor_none sc.nofree) sc.kind sc.names (thn (hi pins s σ H _ I h) fun v s1 h1=>thn h1 fun itv s2 h2=>?_)
 obtain ⟨it,fp,tn,J,H2,e,I2,T,st2,f2,q2⟩:=h2
 subst e
 refine z38 (RR:=fun acc C=>compPost (model X.prog X.w) X.A X.xe none (EP X pins σ Q) acc C) hc sc I2 T st2 f2 he q2 ?_
 intro D C s' H' m I' n' c1 c2 c3 c4 c5 q'
 exact ⟨m,n',fun h' hs'=>⟨.ref D,H',I'.turned (t':=s'.toks) (it:=C) (fun b o hb e=>(hs'.2 b hb).trans e) c2 c1 (.inr c3) c4 c5,rfl,q'⟩⟩
def z57 (i:Nat) (te:TE):TS:=fun D σ H=>te σ H fun v H1=>D.nx (σ.set i (some v)) H1
theorem z4K {K:kn} {a:Addr} {xs:List V} {te:TE} {R:Hp→Prop} {H:Hp} {l:Addr} (Pv:Nat→List V→Hp→Prop) (h0:Pv 0 [] (upd H l (.lst []))) (hl:∀i ys H,i≤xs.length→Pv i ys H→SqL K H a xs)
  (hs:∀i x ys H,xs[i]?=some x→Pv i ys H→te [some x] H fun v H4=>H4 l=some (.lst ys)∧ys.length < sizeLine∧∃m',m' < xs.length - i∧m'=xs.length - (i+1)∧i+1≤xs.length∧Pv (i+1) (ys++[v]) (upd H4 l (.lst (ys++[v])))) (hd:∀ys H,Pv xs.length ys H→R H):
  ∃W:Nat→Nat→List V→Hp→Prop,(∃m,W 0 m [] (upd H l (.lst [])))∧∀i m ys H2,W i m ys H2→
   ((Itl K a).stop i H2∧R H2)∨((Itl K a).go i H2∧∀x H3,(Itl K a).yld i H2 x H3→te [some x] H3 fun v H4=>H4 l=some (.lst ys)∧ys.length < sizeLine∧∃m',m' < m∧W (i+1) m' (ys++[v]) (upd H4 l (.lst (ys++[v])))):=by
 refine ⟨fun i m ys H=>m=xs.length - i∧i≤xs.length∧Pv i ys H,⟨xs.length,by simp,Nat.zero_le _,h0⟩,?_⟩
 rintro i m ys H ⟨rfl,hi,p⟩
 have q:=hl i ys H hi p
 by_cases hlt:i < xs.length
 ·refine .inr ⟨⟨xs,xs[i],q,by simp [hlt]⟩,fun x H' y=>?_⟩
  obtain ⟨e,y⟩:=y
  subst e
  exact hs i x ys _ (y xs q) p
 ·have e:i=xs.length:=by lia
  subst e
  exact .inl ⟨⟨xs,q,kc _⟩,hd ys H p⟩
end
end L2
namespace L2
open PySem PySem.Spec PyProof.Rows
theorem Inv.turned2 {X:Cx} {pins:List (Addr × Obj)} {σ:St} {H:Hp} {s:Shared} {h':Heap} {t':Nat} {e it:Addr} {xs:List V} (I:Inv X pins σ H s) (k:∀b o,b≠e→b≠it→s.heap.get? b=some o→h'.get? b=some o)
  (there:∀b∈[e,it],∃o,h'.get? b=some o) (fe:FpOk X pins H e) (fi:FpOk X pins H it) (new:qF X.prog X.w (upd H s.heap.objs.size (.tup xs)) h' s.heap.objs.size (.tup xs)):
  Inv X pins σ (upd H s.heap.objs.size (.tup xs)) { s with heap:=h',toks:=t' }:=by
 have hn:=I.fresh
 have nit:∀b u,H b=some u→b≠e∧b≠it:=fun b u q=>⟨(fun z=>by rw [z,fe.1] at q;cases q),(fun z=>by rw [z,fi.1] at q;cases q)⟩
 have hm:∀{b:Addr},b∉[e,it]→b≠e∧b≠it:=fun {b} hb=>⟨fun z=>hb (by simp [z]),fun z=>hb (by simp [z])⟩
 refine I.step (g':=s.gens) (d':=s.drawn) (ch:=[e,it]) (fun b hb=>?_) (fun b o _ _ hc q _=>k b o (hm hc).1 (hm hc).2 q) (fun b o _ _ hc q _=>⟨o.slots,k b o (hm hc).1 (hm hc).2 q⟩) (fun b o _ q n=>?_)
  (fun b o hc q=>⟨o,k b o (hm hc).1 (hm hc).2 q⟩) (fun b xs q=>by rw [zl (zh q hn)];exact q) (fun b o u q=>by rw [zl (zh q hn)];exact q) (fun b ps q=>⟨#[],by rw [zl (zh q hn),q];simp⟩) (fun m hm'=>?_) (fun b u q=>?_) I.bare
 ·rcases kw.mp hb with z | z
  ·subst z;exact ⟨fe.2.2.2.1,fe.2.1,fe.2.2.2.2.1,fe.2.2.2.2.2⟩
  ·have z:b=it:=by simpa using z
   subst z;exact ⟨fi.2.2.2.1,fi.2.1,fi.2.2.2.2.1,fi.2.2.2.2.2⟩
 ·rw [zl (Nat.ne_of_lt (Heap.lt_size q))];exact n
 ·obtain ⟨o,es,ep,ho,r⟩:=hm'
  exact ⟨o,es,ep,k _ o (Ne.symm fe.2.1) (Ne.symm fi.2.1) ho,r⟩
 ·by_cases hb:b=s.heap.objs.size
  ·subst hb;rw [zb] at q;cases q;exact new
  ·rw [zl hb] at q
   refine (I.hok b u q).stay (fun c v hc z=>?_) (fun c z=>by rw [zl (zh z hn)];exact z) fun c xs z=>by rw [zl (zh z hn)];exact z
   rcases hc with y | y
   ·subst y;exact k c v (nit c u q).1 (nit c u q).2 z
   ·exact k c v (nit c _ y).1 (nit c _ y).2 z
noncomputable def Ite (K:kn) (a:Addr):It:=
 ⟨fun i H=>∃xs x,SqL K H a xs∧xs[i]?=some x,fun i H x H'=>∃p y,x=.ref p∧H p=none∧H'=upd H p (.tup [.int i,y])∧∀xs,SqL K H a xs→xs[i]?=some y,fun i H=>∃xs,SqL K H a xs∧xs.length≤i⟩
theorem z3i {P:Program} {w:World} {K:kn} {elts:List Expr} {x1} {pos:Pos} (a e it:Addr) (hei:e≠it):Turn P w K (.Tuple elts x1 pos) (Ite K a) [e,it] e (fun i h=>(∃old,IsEnum h e it i old)∧h.IsListIter it a i) where
 mem:=by simp
 obj:=fun i h st b hb=>by
  rcases kw.mp hb with z | z
  ·subst z
   obtain ⟨old,q⟩:=st.1
   exact ⟨_,q,fun v y=>by cases y⟩
  ·have z:b=it:=by simpa using z
   subst z
   obtain ⟨o,q,c,d⟩:=st.2
   exact ⟨o,q,fun v z=>by rw [d] at z;cases z⟩
 keep:=fun i h h' st k=>⟨let ⟨old,q⟩:=st.1;⟨old,k e (by simp) _ q⟩,st.2.at fun o q=>k it (by simp) o q⟩
 item:=by
  intro X hP hw hK hc i pins s σ H E I hf st hg
  subst hP hw hK
  obtain ⟨xs,x,hq,hx⟩:=hg
  obtain ⟨its,rv,p,hz⟩:=I.list hq
  obtain ⟨u,hu,ru⟩:=rv.get hx
  obtain ⟨⟨old,he⟩,hit⟩:=st
  have fe:=hf e (by simp)
  have fi:=hf it (by simp)
  refine wpAny_pyNext_enum_item he hit p.isList (x:=u) (by simpa using hu) hei fun h' ho hit' hT hsz hk=>?_
  refine ⟨_,rfl,?_⟩
  have new:qF X.prog X.w (upd H s.heap.objs.size (.tup [.int i,x])) h' s.heap.objs.size (.tup [.int i,x]):=⟨by show 2≤sizeLine;decide,[.int i s.toks,u],.cons ⟨_,rfl⟩ (.cons ru .nil),_,hT,rfl,_,rfl⟩
  obtain ⟨oi,ei,_⟩:=id hit'
  have I1:Inv X pins σ (upd H s.heap.objs.size (.tup [.int i,x])) { s with heap:=h',toks:=s.toks+1 }:=I.turned2 hk (fun b hb=>by
   rcases kw.mp hb with z | z
   ·subst z;exact ⟨_,ho⟩
   ·have z:b=it:=by simpa using z
    subst z;exact ⟨_,ei⟩) fe fi new
  have ne1:e≠s.heap.objs.size:=Nat.ne_of_lt (Heap.lt_size he)
  have ne2:it≠s.heap.objs.size:=by obtain ⟨o2,e2,_⟩:=hit;exact Nat.ne_of_lt (Heap.lt_size e2)
  refine wpAny_letOwnedTupleGo_enum (s:={ s with heap:=h',toks:=s.toks+1 }) ho fun h2 he2 hs2=>?_
  have he2':IsEnum h2 e it (((i+1:Nat)):Int) u:=by simpa using he2
  refine ⟨.ref s.heap.objs.size,_,I1.turned (t':=s.toks+1) (it:=e) (fun b o hb q=>(hs2.2 b hb).trans q) (by rw [zl ne1];exact fe.1) fe.2.1 fe.2.2.2.1 fe.2.2.2.2.1 fe.2.2.2.2.2,rfl,⟨_,x,rfl,I.fresh,rfl,fun ys hy=>by rw [I.list_inj hy hq];exact hx⟩,⟨⟨u,he2'⟩,hit'.at fun o q=>(hs2.2 it hei.symm).trans q⟩,fun b hb=>?_⟩
  rcases kw.mp hb with z | z
  ·subst z;rw [zl ne1];exact fe.1
  ·have z:b=it:=by simpa using z
   subst z;rw [zl ne2];exact fi.1
 done:=by
  intro X hP hw hK hc i pins s σ H E I hf st hg
  subst hP hw hK
  obtain ⟨xs,hq,hx⟩:=hg
  obtain ⟨its,rv,p,hz⟩:=I.list hq
  obtain ⟨⟨old,he⟩,hit⟩:=st
  obtain ⟨f0,f1,f2,f3,f4,f5⟩:=hf it (by simp)
  have hl:=rv.length
  exact wpAny_pyNext_enum_end (I.ok.hd hc) he hit p.isList (by simp;lia) fun h' eb=>⟨rfl,I.turned (t':=s.toks) (fun b o hb e=>eb b o hb e) f0 f1 f3 f4 f5⟩
 self:=fun _ _ _ _ _ st h=>let ⟨old,he⟩:=st.1;wpAny_pyIter_enum he h
section
variable {X:Cx}
def z9w (K:kn) (ta:TA):TI:=fun σ H R=>ta σ H fun vs H1=>∃a,vs=[.ref a]∧(∃xs,SqL K H1 a xs)∧R (Ite K a) H1
theorem z3R {a:Expr} {ta:TA} {p pos:Pos} {elts:List Expr} {x1} {tp:Pos} (hg:Gl X "enumerate") (hm:X.mg "enumerate"=none) (ha:PA X [a] ta) (hs:autoParam (starEach [a] X.env=[(false,eval a X.env)]) aR._auto_1):PI X (.Tuple elts x1 tp) (.Call (.Name "enumerate" p) [a] [] pos) (z9w X.K ta):=by
 intro pins s σ H R I h
 refine Call_ (z0C I hg hm boot_enumerate (PyProof.Rows.callWith_type1 (thn (ha pos pins s σ H _ I h) fun us s1 ⟨vs,H1,I1,r1,q1⟩=>?_) hs rfl))
 obtain ⟨l,e,⟨xs,hq⟩,q⟩:=q1
 subst e
 cases r1 with
 | cons r rr=>
  cases rr
  cases r
  obtain ⟨its,rv,p,hz⟩:=I1.list hq
  refine call_enumerate_list p.isList fun h' he hit hsz hk=>?_
  refine wpAny_pyIter_enum (s:={ s1 with heap:=h' }) he ?_
  have I2:Inv X pins σ H1 { s1 with heap:=h' }:=I1.kept (t':=s1.toks) hk
  have n0:H1 s1.heap.objs.size=none:=I1.fresh
  have n1:H1 (s1.heap.objs.size+1)=none:=I1.hok.fresh (Nat.le_succ _)
  refine ⟨s1.heap.objs.size+1,[s1.heap.objs.size+1,s1.heap.objs.size],_,_,H1,rfl,I2,z3i l _ _ (Nat.succ_ne_self _),⟨⟨_,he⟩,hit⟩,fun b hb=>?_,q⟩
  rcases kw.mp hb with z | z
  ·subst z;exact I1.fpOk (Nat.le_succ _) n1
  ·have z:b=s1.heap.objs.size:=by simpa using z
   subst z;exact I1.fpOk (kc _) n0
end
theorem z2d {K:kn} {a:Addr} {xs:List V} {g:TG} {tb:TS} {D:Ends} {σ:St} {H:Hp} (Pv:Nat→St→Hp→Prop) (h0:Pv 0 σ H) (hl:∀i σ H,i≤xs.length→Pv i σ H→SqL K H a xs)
  (hs:∀(i:Nat) x σ H p,xs[i]?=some x→Pv i σ H→H p=none→g (.ref p) σ (upd H p (.tup [.int i,x])) fun σ2 H2=>tb { D with nx:=Pv (i+1),ct:=Pv (i+1),bk:=D.nx } σ2 H2) (hd:∀σ H,Pv xs.length σ H→D.nx σ H):
  ∃W:Nat→Nat→St→Hp→Prop,(∃m,W 0 m σ H)∧∀i m σ H,W i m σ H→
   ((Ite K a).stop i H∧D.nx σ H)∨((Ite K a).go i H∧∃N:St→Hp→Prop,(∀σ' H',N σ' H'→∃m',m' < m∧W (i+1) m' σ' H')∧∀x H',(Ite K a).yld i H x H'→g x σ H' fun σ2 H2=>tb { D with nx:=N,ct:=N,bk:=D.nx } σ2 H2):=by
 refine ⟨fun i m σ H=>m=xs.length - i∧i≤xs.length∧Pv i σ H,⟨xs.length,by simp,Nat.zero_le _,h0⟩,?_⟩
 rintro i m σ H ⟨rfl,hi,p⟩
 have q:=hl i σ H hi p
 by_cases hlt:i < xs.length
 ·refine .inr ⟨⟨xs,xs[i],q,by simp [hlt]⟩,Pv (i+1),fun σ' H' p'=>⟨xs.length - (i+1),by lia,rfl,hlt,p'⟩,fun x H' y=>?_⟩
  obtain ⟨p',y',rfl,hn,rfl,y⟩:=y
  exact hs i y' σ _ p' (y xs q) p hn
 ·have e:i=xs.length:=by lia
  subst e
  exact .inl ⟨⟨xs,q,kc _⟩,hd σ H p⟩
end L2
namespace L2
open PySem PySem.Spec PyProof.Rows
section
variable {X:Cx}
def rS0 (f:Str→V):V→List V→Hp→VK→Prop:=fun x vs H Q=>∃z,x=.str z∧vs=[]∧Q (f z) H
theorem z2E:MtM X "str.isascii" (rS0 fun z=>.bl (Txt.isascii z)):=by
 intro pins s σ H x vs v us Q I rx rv h
 obtain ⟨z,rfl,rfl,q⟩:=h
 obtain ⟨t,rfl⟩:=rx
 cases rv
 exact SC.isascii ⟨.bl _,H,I,rfl,q⟩
theorem z2F:MtM X "str.isalpha" (rS0 fun z=>.bl (Txt.isalpha z)):=by
 intro pins s σ H x vs v us Q I rx rv h
 obtain ⟨z,rfl,rfl,q⟩:=h
 obtain ⟨t,rfl⟩:=rx
 cases rv
 exact SC.isalpha ⟨.bl _,H,I,rfl,q⟩
theorem z2D:MtM X "str.islower" (rS0 fun z=>.bl (Txt.islower z)):=by
 intro pins s σ H x vs v us Q I rx rv h
 obtain ⟨z,rfl,rfl,q⟩:=h
 obtain ⟨t,rfl⟩:=rx
 cases rv
 exact SC.islower ⟨.bl _,H,I,rfl,q⟩
theorem z5k {v:Expr} {pos:Pos} {t:TE} (h:PE X v t):PE X (.JoinedStr [v] pos) t:=fun pins s σ H Q I hq=>wpAny_JoinedStr_one (h pins s σ H Q I hq)
theorem qd:Jd X (.builtin "isinstance") (fun xs H Q=>∃x T t b,xs=[x,.ty T]∧TyOf X.K H x t∧PySem.W.kitOne X.K t (.type T)=some b∧Q (.bl b) H):=by
 intro pins s σ H xs us Q I r h
 obtain ⟨x,T,t,b,rfl,ty,e,q⟩:=h
 obtain ⟨u,u2,rfl,ru,r2⟩:=z6N r
 cases r2
 exact z4k I ru ty e fun tk=>⟨.bl b,H,I.tok tk,rfl,q⟩
theorem z6z:OpR X (compareOp .Is) (fun x y H Q=>∃b,y=.bl b∧Q (.bl (decide (x=.bl b))) H):=by
 intro pins s σ H x y v u Q I rx ry h
 obtain ⟨b,rfl,q⟩:=h
 cases ry
 cases x with
 | non=>cases rx;exact PySem.wpAny_is_plain rfl (zT I q (by cases b <;> rfl))
 | bl c=>cases rx;exact PySem.wpAny_is_plain rfl (zT I q (by cases b <;> cases c <;> rfl))
 | int i=>obtain ⟨t,rfl⟩:=rx;exact PySem.wpAny_is_plain rfl (zT I q rfl)
 | str z=>obtain ⟨t,rfl⟩:=rx;exact PySem.wpAny_is_plain rfl (zT I q rfl)
 | byt z=>obtain ⟨t,rfl⟩:=rx;exact PySem.wpAny_is_plain rfl (zT I q rfl)
 | flt z=>obtain ⟨t,rfl⟩:=rx;exact PySem.wpAny_is_plain rfl (zT I q rfl)
 | ref a=>cases rx;exact PySem.wpAny_is_plain rfl (zT I q rfl)
 | ty n=>cases rx;exact PySem.wpAny_is_plain rfl (zT I q rfl)
end
end L2
namespace L2
open PySem PySem.Spec PyProof.Rows
def KTab (P:Params) (K:kn) (d:Addr) (tab:List (Str × V)):Prop:=
 ∃es n,K.lookup d=some ⟨.type "dict",none,.dict es n,#[]⟩∧PySem.W.KeysLit P es.toList∧(d == sysModules)=false∧Paired (fun (p:Str × V) (e:DictEntry)=>(∃t,e.key=.str p.1 t)∧RelV p.2 e.val) tab es.toList
theorem z0E {x:Str}:∀{tab:List (Str × V)} {es:List DictEntry},Paired (fun (p:Str × V) (e:DictEntry)=>(∃t,e.key=.str p.1 t)∧RelV p.2 e.val) tab es→
  RelO (tab.lookup x) ((es.find? fun e=>Value.isStrOf x e.key).map (·.val))
 | _,_,.nil=>trivial
 | (k,v) :: tab,e :: es,.cons ⟨⟨t,hk⟩,hv⟩ r=>by
  have ih:=z0E (x:=x) r
  by_cases hx:x=k
  ·subst hx
   have h1:((x,v) :: tab).lookup x=some v:=by simp [List.lookup]
   have h2:(e :: es).find? (fun e=>Value.isStrOf x e.key)=some e:=by
    rw [List.find?_cons,hk]
    simp [Value.isStrOf]
   rw [h1,h2]
   exact hv
  ·have h1:((k,v) :: tab).lookup x=tab.lookup x:=by
    rw [List.lookup_cons]
    have:(x == k)=false:=by simpa using hx
    rw [this]
   have h2:(e :: es).find? (fun e=>Value.isStrOf x e.key)=es.find? (fun e=>Value.isStrOf x e.key):=by
    rw [List.find?_cons,hk]
    have:Value.isStrOf x (Value.str k t)=false:=by simpa [Value.isStrOf] using fun z=>hx z.symm
    rw [this]
   rw [h1,h2]
   exact ih
section
variable {X:Cx}
theorem Qz {P:Params} {K:kn} {prog:Program} {w:World} {h:Heap} {d:Addr} {tab:List (Str × V)} (hP:P=w.params) (t:KTab P K d tab) (kin:K.In h):
  ∃f,h.MapOf (strKind prog w) d f∧(d == sysModules)=false∧∀x,RelO (tab.lookup x) (f x):=by
 subst hP
 obtain ⟨es,n,hl,hk,hd,hp⟩:=t
 refine ⟨_,PySem.W.mapOf_K (prog:=prog) kin hl hk,hd,fun x=>?_⟩
 have q:=z0E (x:=x) hp
 show RelO _ (findBy Value.isStrOf es x)
 unfold findBy
 rw [←Array.find?_toList]
 exact q
def z97 (tab:List (Str × V)) (ty:TE):TE:=fun σ H Q=>ty σ H fun y H1=>∃x v,y=.str x∧tab.lookup x=some v∧Q v H1
theorem QT {nm:Str} {i:Expr} {p pos:Pos} {d:Addr} {tab:List (Str × V)} {ty:TE} (T:KTab X.w.params X.K d tab) (hg:Gl X nm) (hm:X.mg nm=some (.ref d)) (hi:PE X i ty) (hs:NoSl i) (hd:autoParam ((nm == ("__debug__":Str))=false) aR._auto_2):
  PE X (.Subscript (.Name nm p) i pos) (z97 tab ty):=by
 intro pins s σ H Q I h
 refine z3l PySem.F.slot_dict_getitem.lookup hs (Q4 I hg hm (thn (hi pins s σ H _ I h) fun iv s2 ⟨y,H2,I2,ry,x,v,ex,l,q⟩=>?_) hd)
 subst ex
 obtain ⟨t,rfl⟩:=ry
 obtain ⟨f,mo,_,hf⟩:=Qz (prog:=X.prog) (w:=X.w) rfl T I2.kIn
 have hf:=hf x
 rw [l] at hf
 obtain ⟨w',e',rw'⟩:=RelO.some_of hf
 exact ⟨mo.typeIs,wpAny_getItem_of (strKind_is X.prog X.w x t) mo e' ⟨v,H2,I2.tok _,rw',q⟩⟩
def tKIn (tab:List (Str × V)) (ty:TE):TE:=fun σ H Q=>ty σ H fun y H1=>∃x,y=.str x∧Q (.bl (tab.lookup x).isSome) H1
theorem z8p {nm:Str} {i:Expr} {p:Pos} {d:Addr} {tab:List (Str × V)} {ty:TE} (T:KTab X.w.params X.K d tab) (hg:Gl X nm) (hm:X.mg nm=some (.ref d)) (hi:PE X i ty) (hd:autoParam ((nm == ("__debug__":Str))=false) aR._auto_2):
  PC X .In i (.Name nm p) (tKIn tab ty):=by
 intro pins s σ H Q I h
 refine thn (hi pins s σ H _ I h) fun iv s1 ⟨y,H1,I1,ry,x,ex,q⟩=>Q4 I1 hg hm ?_ hd
 subst ex
 obtain ⟨t,rfl⟩:=ry
 obtain ⟨f,mo,lo,hf⟩:=Qz (prog:=X.prog) (w:=X.w) rfl T I1.kIn
 refine wpAny_in_of (strKind_is X.prog X.w x t) lo mo ⟨.bl _,H1,I1.tok _,rfl,?_⟩
 rw [←RelO.isSome_eq (hf x)]
 exact q
def z88 (X:Cx) (i:Nat) (t:TA):TE:=fun σ H Q=>∃(f:Addr) (fd:FuncData) (ps:List Str) (sp:Sp) (k:Nat),σ[i]?=some (some (.ref f))∧PySem.W.keepIn X.K (.ref f)=true∧FnOk X.prog X.w X.K X.mg X.base CX0 k f fd ps sp∧Room k X.A∧Jg X.K fd ps []∧
 t σ H fun vs H1=>sp vs H1 Q E0
theorem JK {i:Nat} {x:Str} {p pos:Pos} {e:Expr} {es:List Expr} {t:TA} (hv:PE X (.Name x p) (tVar i)) (ha:PA X (e :: es) t)
  (he:autoParam (starEach (e :: es) X.env=(false,eval e X.env) :: starEach es X.env) aR._auto_1) (hpl:autoParam ((backTo pos (starEach es X.env)).any (·.1)=false) aR._auto_1):
  PE X (.Call (.Name x p) (e :: es) [] pos) (z88 X i t):=by
 intro pins s σ H Q I h
 obtain ⟨f,fd,ps,sp,k,hσ,hk,F,hr,hb,h⟩:=h
 refine wpAny_Call_Name_kw (thn (hv pins s σ H (fun v H1=>v=.ref f∧H1=H) I ⟨.ref f,hσ,rfl,rfl⟩) fun u s1 zz=>?_)
 obtain ⟨v,H1,I1,r1,e1,e2⟩:=zz
 subst e1
 subst e2
 cases r1
 refine PySem.W.callWith_K (h₀:=X.base) I1.ok.mod.kin hk (thn (ha pos pins s1 σ _ _ I1 h) fun us s2 ⟨vs,H2,I2,r,q⟩=>⟨I2.kIn,?_⟩) he hpl
 exact z6w F hr hb .nil z76 I2 r (by rw [kO];exact q)
def rEqE (K:kn):R2:=fun x y H Q=>∃p q xs,x=.ref p∧y=.ref q∧SqL K H p xs∧SqL K H q []∧Q (.bl (decide (xs=[]))) H
theorem z0r (hu:X.A.units < cLine):OpR X (compareOp .Eq) (rEqE X.K):=by
 intro pins s σ H x y v u Q I rx ry h
 obtain ⟨p,q,xs,rfl,rfl,h1,h2,hq⟩:=h
 cases rx
 cases ry
 obtain ⟨its,r,pl,_⟩:=I.list h1
 obtain ⟨its2,r2,pl2,_⟩:=I.list h2
 cases r2
 cases r with
 | nil=>
  refine SeqAt.eq_listAt (e:=fun _=>true) pl.isList pl2.isList rfl hu (fun j h1 _=>absurd h1 (by simp)) ⟨.bl _,H,I,rfl,?_⟩
  simpa using hq
 | cons a b=>
  refine SeqAt.eq_list_lengthsAt pl.isList pl2.isList (by simp) hu ⟨.bl _,H,I,rfl,?_⟩
  simpa using hq
def z6Q (td ty tx:TE):TE:=fun σ H Q=>td σ H fun x H1=>∃a,x=.ref a∧IsD H1 a∧ty σ H1 fun y H2=>tx σ H2 fun z H3=>∃kvs k,H3 a=some (.dK kvs)∧y=kV k∧kvs.length < sizeLine∧
 match valV kvs k with
 | some v=>Q v H3
 | none=>Q z (upd H3 a (.dK (putK kvs k z)))
theorem z3S {o e f:Expr} {apos cpos:Pos} {td ty tx:TE} (ho:PE X o td) (he:PE X e ty) (hf:PE X f tx) (m:M2 X o "setdefault" apos e f cpos):PE X (.Call (.Attribute o "setdefault" apos) [e,f] [] cpos) (z6Q td ty tx):=by
 intro pins s σ H Q I h
 refine wpAny_Call_method m.base m.few m.line PySem.F.plainAttrs_dict PySem.F.slot_dict_setdefault PySem.F.type_dict_setdefault (thn (ho pins s σ H _ I h) fun u s1 zz=>?_)
 obtain ⟨x,H1,I1,rx,a,ex,d,q1⟩:=zz
 subst ex
 obtain rfl:u=Value.ref a:=rx
 obtain ⟨t1,t2,_⟩:=z6B I1 d
 refine ⟨t1,t2,?_⟩
 rw [m.trees]
 refine Calls.callWith_builtin rfl (Calls.evalArgs_plain (Calls.spliced_cons (thn (he pins s1 σ H1 _ I1 q1) fun iv s2 ⟨y,H2,I2,ry,q2⟩=>
  Calls.spliced_cons (thn (hf pins s2 σ H2 _ I2 q2) fun fv s3 ⟨z,H3,I3,rz,kvs,k,ea,ek,hz,q3⟩=>Calls.spliced_nil ?_))))
 subst ek
 obtain ⟨hl,lo,vs,rel,dd⟩:=z63 I3.hok ea
 have lenr:=rel.length
 have hargs:argsOk "dict.setdefault" ⟨[.ref a,iv,fv],[]⟩:=PySem.F.args_dict_setdefault_3 _ _ _
 show wpAny (model X.prog X.w) X.A (call (.builtin "dict.setdefault") [.ref a,iv,fv]) _ _ _
 refine call_meetsIn PySem.F.slot_dict_setdefault dd.typeIs PySem.F.entry_dict_setdefault hargs (kt_meets_setdefault (qj X.prog X.w) a (z1v ry) lo fv) ⟨vs,dd,by lia,fun v hv=>?_,fun hn h' dd' sb=>?_⟩
 ·cases l:valV kvs k with
  | none=>
   have:=rel.val k
   rw [l,hv] at this
   exact this.elim
  | some w'=>
   have r:=rel.val k
   rw [l,hv] at r
   rw [l] at q3
   exact ⟨w',H3,I3.tok _,r,q3⟩
 ·cases l:valV kvs k with
  | some w'=>
   have r:=rel.val k
   rw [l,hn] at r
   exact r.elim
  | none=>
   rw [l] at q3
   refine ⟨z,_,JW I3 (ob:=.dK (putK kvs k z)) (by rw [ea];exact trivial) sb ?_ (z4D (km (j4 kvs k z) hz) lo (rel.put k rz) dd'),rz,q3⟩
   obtain ⟨ob,_,_,e,_⟩:=dd'
   exact ⟨ob,e⟩
end
end L2
namespace L2
open PySem PySem.Spec PyProof.Rows
theorem z0T {prog:Program} {w:World} {A:Around} {R:Result→Shared→Prop} {s:Shared} {elt target iter:Expr} {ifs:List Expr} {scope:Scope} {pos:Pos} {it acc:Value} {env:Env} (I:Nat→Shared→Prop)
  (turn:∀n s,I n s→wpAny (model prog w) A (pyNext it) (fun r s₁=>match r with
   | none=>R (.ok .next) s₁
   | some v=>wpAny (model prog w) A (letOwnedTupleGo target it v) (fun _ s₁'=>wpAny (model prog w) A (assign target env v) (fun _ s₂=>
     wpAny (model prog w) A (forIn ifs true fun c r=>if r=true then do let ok ←isTrue c env (eval c env);pure (ForInStep.yield ok) else pure (ForInStep.yield r)) (fun ok s₃=>
     if ok=true then wpAny (model prog w) A (eval elt env) (fun x s₃'=>
      wpAny (model prog w) A (call (.builtin "list.append") [acc,x]) (fun _ s₄=>∃m,m < n∧I m s₄) (fun _ _=>False) s₃') (fun _ _=>False) s₃
     else ∃m,m < n∧I m s₃)
     (fun _ _=>False) s₂) (fun _ _=>False) s₁') (fun _ _=>False) s₁) (fun _ _=>False) s)
  (n:Nat) (h:I n s):codeAny (model prog w) A (.compLoop (.ListComp elt [⟨target,iter,ifs,0⟩] scope pos) 0 it acc env) R s:=by
 refine codeAny_loop rfl I (fun n s hI=>?_) n h
 show wpAny _ _ ((compTurn (.ListComp elt [⟨target,iter,ifs,0⟩] scope pos) 0 it acc env).onRaise (fun x=>do noteFrame x env;theTreesLotGoes x)) _ _ s
 refine wpAny_noted ?_
 rw [compTurn_list]
 refine wpAny_bind (wpAny_standAt (wpAny_bind (wpAny_mono (turn n s hI) (fun r s₁ h₁=>?_) fun _ _ h'=>h'.elim)))
 cases r with
 | none=>exact wpAny_pure h₁
 | some v=>
  refine wpAny_bind (wpAny_mono h₁ (fun _ s₁' h₁'=>?_) fun _ _ h'=>h'.elim)
  refine wpAny_bind (wpAny_mono h₁' (fun _ s₂ h₂=>wpAny_bind (wpAny_mono h₂ (fun ok s₃ h₃=>?_) fun _ _ h'=>h'.elim)) fun _ _ h'=>h'.elim)
  cases ok with
  | true=>
   rw [kq rfl] at h₃ ⊢
   exact wpAny_bind (wpAny_bind (wpAny_mono h₃ (fun x s₃' h₃'=>wpAny_bind (wpAny_mono h₃' (fun _ s₄ h₄=>wpAny_pure (wpAny_pure ⟨rfl,h₄⟩)) fun _ _ h'=>h'.elim)) fun _ _ h'=>h'.elim))
  | false=>
   rw [ko ka] at h₃ ⊢
   exact wpAny_bind (wpAny_pure (wpAny_pure ⟨rfl,h₃⟩))
noncomputable abbrev qq (X:Cx) (N:List Str) (scope:Scope) (cl:List (Str × Addr)) (s:Shared) (H:Hp) (fp:List Addr) (C:Addr):Cx where
 prog:=X.prog
 w:=X.w
 K:=X.K
 mg:=X.mg
 base:=X.base
 A:=X.A
 N:=N
 s₀:=s
 H₀:=H
 env:=compEnvC scope cl C X.env
 outer:=X.stack
 stack:=X.stack
 ex:=fp
 fn:=fun _=>false
 calm:=true
 pn:=[]
 xe:=fun _ _=>False
structure jF (X:Cx) (N:List Str) (nt:Nat) (ix:List Nat) (scope:Scope) (cl:List (Str × Addr)):Prop where
 clos:closureFor scope X.env=pure cl
 nocell:∀y∈scope.names,y.2≠.cell
 kind:scope.kind=.function
 names:∀y∈scope.names,y.2=.local→scope.names.lookup y.1=some .local
 sub:∀x c,cl.lookup x=some c→X.env.cells.lookup x=some c
 has:∀x,((relabel scope X.env).names.lookup x=some .cell∨(relabel scope X.env).names.lookup x=some .free)→∃c,cl.lookup x=some c
 len:N.length=nt+ix.length
 free:∀j x,N[nt+j]?=some x→∃i,ix[j]?=some i∧X.N[i]?=some x∧X.env.kindOf x=some .cell∧(relabel scope X.env).names.lookup x=some .cell∧∀c,X.env.cells.lookup x=some c→cl.lookup x=some c
noncomputable def Qi (nt:Nat) (ix:List Nat) (σ:St):St:=List.replicate nt none++ix.map fun i=>(σ[i]?).join
def PTs (X:Cx) (ifs:List Expr) (tc:TT):Prop:=
 ∀(pins:List (Addr × Obj)) (s:Shared) (σ:St) (H:Hp) (Q:Bool→Hp→Prop),Inv X pins σ H s→tc σ H Q→
  wpAny (model X.prog X.w) X.A (forIn ifs true fun c r=>if r=true then do let ok ←isTrue c X.env (eval c X.env);pure (ForInStep.yield ok) else pure (ForInStep.yield r)) (TP X pins σ Q) X.xe s
def tAll:TT:=fun _ H Q=>Q true H
theorem QQ {X:Cx}:PTs X [] tAll:=fun pins s σ H Q I h=>wpAny_tests_nil ⟨H,I,h⟩
theorem z1m {X:Cx} {c:Expr} {tc:TT} (h:PT X c tc):PTs X [c] tc:=fun pins s σ H Q I hq=>wpAny_tests_one (h pins s σ H Q I hq)
def z6o (nt:Nat) (ix:List Nat) (wi:TI) (g:TG) (tc:TT) (te:TE):TE:=fun σ H Q=>wi σ H fun J H1=>∀l,H1 l=none→∃W:Nat→Nat→List V→St→Hp→Prop,(∃m,W 0 m [] (Qi nt ix σ) (upd H1 l (.lst [])))∧∀i m ys σ' H2,W i m ys σ' H2→
 (J.stop i H2∧Q (.ref l) H2)∨(J.go i H2∧∀x H3,J.yld i H2 x H3→g x σ' H3 fun σ2 H4=>tc σ2 H4 fun b H5=>if b=true then te σ2 H5 fun v H6=>H6 l=some (.lst ys)∧ys.length < sizeLine∧∃m',m' < m∧W (i+1) m' (ys++[v]) σ2 (upd H6 l (.lst (ys++[v])))
  else ∃m',m' < m∧W (i+1) m' ys σ2 H5)
section
variable {X:Cx}
theorem Zt {elt iter tg:Expr} {ifs:List Expr} {N:List Str} {nt:Nat} {ix:List Nat} {scope:Scope} {cl:List (Str × Addr)} {pos:Pos} {pins:List (Addr × Obj)} {σ:St} {H:Hp} {s:Shared} {it:Addr} {fp:List Addr} {tn:Nat→Heap→Prop} {J:It} {g:TG} {tc:TT} {te:TE} {Q:VK} {E:Value→Shared→Prop}
  {RR:Value→Addr→Result→Shared→Prop}
  (hc:X.calm=true) (sc:jF X N nt ix scope cl) (I:Inv X pins σ H s) (T:Turn X.prog X.w X.K tg J fp it tn) (st:tn 0 s.heap) (hf:∀b∈fp,FpOk X pins H b)
  (hg:∀(s:Shared) (H:Hp) (fp:List Addr) (C:Addr),PG (qq X N scope cl s H fp C) tg g)
  (ht:∀(s:Shared) (H:Hp) (fp:List Addr) (C:Addr),PTs (qq X N scope cl s H fp C) ifs tc)
  (he:∀(s:Shared) (H:Hp) (fp:List Addr) (C:Addr),PE (qq X N scope cl s H fp C) elt te)
  (h:∀l,H l=none→∃W:Nat→Nat→List V→St→Hp→Prop,(∃m,W 0 m [] (Qi nt ix σ) (upd H l (.lst [])))∧∀i m ys σ' H2,W i m ys σ' H2→
   (J.stop i H2∧Q (.ref l) H2)∨(J.go i H2∧∀x H3,J.yld i H2 x H3→g x σ' H3 fun σ2 H4=>tc σ2 H4 fun b H5=>if b=true then te σ2 H5 fun v H6=>H6 l=some (.lst ys)∧ys.length < sizeLine∧∃m',m' < m∧W (i+1) m' (ys++[v]) σ2 (upd H6 l (.lst (ys++[v])))
    else ∃m',m' < m∧W (i+1) m' ys σ2 H5))
  (hRR:∀D C s' H' m,Inv X pins σ H' s'→s'.heap.Ns C m→C≠X.env.locals→H' C=none→X.s₀.heap.objs.size≤C→(∀x c,X.env.cells.lookup x=some c→c≠C)→(∀p∈X.pn++pins,p.1≠C)→Q (.ref D) H'→RR (.ref D) C (.ok .next) s'):
  wpAny (model X.prog X.w) X.A (newList []) (fun acc s₃=>wpAny (model X.prog X.w) X.A (newFunctionEnv scope X.env.globals cl [] X.env.qual none .none (some X.env)) (fun cenv s₄=>
   codeAny (model X.prog X.w) X.A (.compStart (.ListComp elt [⟨tg,iter,ifs,0⟩] scope pos) 0 (.ref it) acc { cenv with scope:=relabel scope X.env }) (RR acc cenv.locals) s₄) E s₃) E s:=by
 refine wpAny_newObj_type ?_
 have I3:Inv X pins σ (upd H s.heap.objs.size (.lst [])) { s with heap:=s.heap.push { cls:=.type "list",data:=.seq ([]:List Value).toArray } }:=I.lnew (ys:=[]) (its:=[]) (t':=s.toks) .nil (Nat.zero_le _)
 have st3:tn 0 (s.heap.push { cls:=.type "list",data:=.seq ([]:List Value).toArray }):=T.keep _ _ _ st fun b hb o e=>Heap.get?_push_of_some _ e
 have fpl:∀b∈fp,b < s.heap.objs.size:=fun b hb=>by
  obtain ⟨o,e,_⟩:=T.obj _ _ st b hb
  exact Heap.lt_size e
 obtain ⟨W,⟨m0,w0⟩,turn⟩:=h s.heap.objs.size I.fresh
 have hf3:∀b∈fp,FpOk X pins (upd H s.heap.objs.size (.lst [])) b:=fun b hb=>⟨by rw [zl (Nat.ne_of_lt (fpl b hb))];exact (hf b hb).1,(hf b hb).2⟩
 generalize hD:s.heap.objs.size=D at *
 generalize hH3:upd H D (HO.lst [])=H3 at *
 generalize hs3:({ s with heap:=s.heap.push { cls:=.type "list",data:=.seq ([]:List Value).toArray } }:Shared)=s3 at *
 have hsz3:s3.heap.objs.size=D+1:=by rw [←hs3,←hD];exact Heap.size_push ..
 have st3':tn 0 s3.heap:=by rw [←hs3];exact st3
 refine wpAny_newFunctionEnv (s:=s3) sc.nocell (by intro y hy;simp at hy) (fun h1 hns hsb=>?_) sc.kind
 generalize hC:s3.heap.objs.size=C at *
 have kept:∀b o,s3.heap.get? b=some o→h1.get? b=some o:=fun b o e=>hsb.extBut b o (by rw [←hC];exact Nat.ne_of_lt (Heap.lt_size e)) (Heap.get?_push_of_some _ e)
 show codeAny (model X.prog X.w) X.A (.compStart (.ListComp elt [⟨tg,iter,ifs,0⟩] scope pos) 0 (.ref it) (.ref D) (compEnvC scope cl C X.env)) (RR (.ref D) C) { s3 with heap:=h1,toks:=s3.toks+0 }
 have fpC:∀b∈fp,b≠C:=fun b hb=>Nat.ne_of_lt (kG (fpl b hb) (by rw [hsz3];exact Nat.le_succ D))
 have cellC:∀x c,cl.lookup x=some c→c≠C:=fun x c e z=>by
  obtain ⟨v,q⟩:=I3.cell x c (sc.sub x c e)
  have:=q.lt
  rw [hC,z] at this
  exact Nat.lt_irrefl _ this
 have ok:(qq X N scope cl s3 H3 fp C).Ok:={
  mod:=I.ok.mod,kind:=(show (relabel scope X.env).kind=.function from sc.kind),glob:=I.ok.glob,blt:=I.ok.blt,above:=kQ hC
  inj:=fun y z c e e'=>I.ok.inj y z c (sc.sub y c e) (sc.sub z c e')
  has:=fun y hy=>sc.has y hy
  cab:=fun y c e _=>nomatch e
  hd:=fun _=>I.ok.hd hc
  frames:=I.ok.frames
  stk:=.inl rfl
  exf:=fun b hb=>⟨fpC b hb,fun y c e=>(hf3 b hb).2.2.2.2.1 y c (sc.sub y c e)⟩
  bs:=I3.bs
  bsz:=km I.ok.bsz I3.sz
  noex:=fun b o e hb=>by
   obtain ⟨_,_,_,h4,_⟩:=hf3 b hb
   rcases h4 with z | z
   ·exact I.ok.noex b o e z
   ·exact absurd (kG (Heap.lt_size (I.ok.bs b o e).1) z) (Nat.lt_irrefl _)
  exfs:=fun b hb z=>by
   obtain ⟨_,h1,h2,_⟩:=hf3 b hb
   rcases kw.mp (I3.stkSub b z) with q | q
   ·exact h1 q
   ·exact h2 q
  funs:=I3.stack
  frf:=I3.stkFree }
 have cellK:∀c v,s3.heap.IsCell c v→h1.IsCell c v:=fun c v ⟨o,ho,hd⟩=>⟨o,kept c o ho,hd⟩
 have I4:Inv (qq X N scope cl s3 H3 fp C) [] (Qi nt ix σ) H3 { s3 with heap:=h1,toks:=s3.toks+0 }:={
  ok:=ok,os:=rfl,bare:=I3.bare,base:=Un.kept kept
  loc:=⟨_,hns,fun i y v e1 e2 _=>by
   have e2:(Qi nt ix σ)[i]?=some (some v):=e2
   unfold Qi at e2
   by_cases hi:i < nt
   ·rw [ya (by simpa using hi),List.getElem?_replicate,kq hi] at e2
    cases e2
   ·obtain ⟨j,rfl⟩:∃j,i=nt+j:=⟨i - nt,by lia⟩
    rw [yb (by simp),List.length_replicate,Nat.add_sub_cancel_left,List.getElem?_map] at e2
    obtain ⟨k,hk,hXN,hkind,hrel,hcl⟩:=sc.free j y e1
    rw [hk] at e2
    have e3:σ[k]?=some (some v):=by
     cases q:σ[k]? with
     | none=>rw [Option.map_some,q] at e2;cases e2
     | some o=>rw [Option.map_some,q] at e2;simpa using e2
    obtain ⟨m,_,hl⟩:=I3.loc
    obtain ⟨u,ru,lk⟩:=hl k y v hXN e3 (.inr (.inl hkind))
    refine ⟨u,ru,.inr ⟨.inl hrel,?_⟩⟩
    rcases lk with ⟨z,_⟩ | ⟨_,c,hcc,hcell⟩
    ·rw [hkind] at z;cases z
    ·exact ⟨c,hcl c hcc,cellK _ _ hcell⟩⟩
  cell:=fun y c e=>let ⟨v,q⟩:=I3.cell y c (sc.sub y c e);⟨v,cellK _ _ q⟩
  free:=I3.hok.fresh (kQ hC)
  freeC:=fun y c e=>I3.freeC y c (sc.sub y c e)
  pin:=fun p hp=>absurd (show p∈([]:List (Addr × Obj)) from hp) (by simp)
  hok:=I3.hok.kept kept
  len:=by show (Qi nt ix σ).length=N.length;rw [sc.len];unfold Qi;simp }
 have st4:tn 0 h1:=T.keep _ _ _ st3' fun b hb o e=>kept b o e
 have stat:∀{H':Hp},(∀b∈fp,H' b=none)→∀b∈fp,FpOk (qq X N scope cl s3 H3 fp C) [] H' b:=fun hn b hb=>⟨hn b hb,fpC b hb,ok.exfs b hb,.inl hb,(fun y c e=>(hf3 b hb).2.2.2.2.1 y c (sc.sub y c e)),fun p hp=>absurd (show p∈([]:List (Addr × Obj)) from hp) (by simp)⟩
 have loop:codeAny (model X.prog X.w) X.A (.compLoop (.ListComp elt [⟨tg,iter,ifs,0⟩] scope pos) 0 (.ref it) (.ref D) (compEnvC scope cl C X.env)) (RR (.ref D) C) { s3 with heap:=h1,toks:=s3.toks+0 }:=by
  refine z0T (fun n s'=>∃i ys σ' H',Inv (qq X N scope cl s3 H3 fp C) [] σ' H' s'∧tn i s'.heap∧(∀b∈fp,H' b=none)∧W i n ys σ' H') ?_ m0 ⟨0,[],_,H3,I4,st4,fun b hb=>(hf3 b hb).1,w0⟩
  rintro n s5 ⟨i,ys,σ5,H5,I5,st5,fr5,w5⟩
  rcases turn i n ys σ5 H5 w5 with ⟨stop,qn⟩ | ⟨go,step⟩
  ·refine thn (T.done (qq X N scope cl s3 H3 fp C) rfl rfl rfl rfl i [] s5 σ5 H5 _ I5 (stat fr5) st5 stop) fun r s6 zz=>?_
   obtain ⟨hr,I6⟩:=zz
   subst hr
   obtain ⟨m6,n6,_⟩:=I6.loc
   refine hRR D C s6 H5 m6 (I3.call' I6.os I6.base I6.hok I6.bare fun b hb=>?_) n6 (Nat.ne_of_gt (by have:=I3.lt;rw [hC] at this;exact this)) I6.free (by have:=I3.sz;rw [hC] at this;exact this) (fun y c e z=>?_) (fun p hp z=>?_) qn
   ·obtain ⟨_,h1,_,h4,h5,h6⟩:=hf3 b hb
    exact ⟨h4,h1,h5,h6⟩
   ·obtain ⟨v,q⟩:=I3.cell y c e
    have:=q.lt
    rw [hC,z] at this
    exact Nat.lt_irrefl _ this
   ·have:=Heap.lt_size (I3.pin p hp).1
    rw [hC,z] at this
    exact Nat.lt_irrefl _ this
  ·refine thn (T.item (qq X N scope cl s3 H3 fp C) rfl rfl rfl rfl i [] s5 σ5 H5 _ I5 (stat fr5) st5 go) fun r s6 zz=>?_
   obtain ⟨u,hr,h6⟩:=zz
   subst hr
   refine thn h6 fun _ s7 zz=>?_
   obtain ⟨v,H7,I7,r7,y7,st7,fr7⟩:=zz
   have I7':=I7.pinned (stat fr7) (T.obj _ _ st7)
   refine thn (hg s3 H3 fp C _ s7 σ5 H7 v u _ I7' r7 (step v H7 y7)) fun _ s8 zz=>?_
   obtain ⟨σ8,H8,I8,q8⟩:=zz
   refine thn (ht s3 H3 fp C _ s8 σ8 H8 _ I8 q8) fun b s9 zz=>?_
   obtain ⟨H9,I9,q9⟩:=zz
   have again:∀{sE:Shared} {HE:Hp} {ysE:List V} {m':Nat},Inv (qq X N scope cl s3 H3 fp C) ([]++z0l fp s7.heap) σ8 HE sE→m' < n→W (i+1) m' ysE σ8 HE→∃m,m < n∧∃i ys σ' H',Inv (qq X N scope cl s3 H3 fp C) [] σ' H' sE∧tn i sE.heap∧(∀b∈fp,H' b=none)∧W i m ys σ' H':=fun {sE HE ysE m'} IE hm' wE=>by
    refine ⟨m',hm',i+1,ysE,σ8,HE,IE.unpinned (pins:=[]),T.keep _ _ _ st7 fun b hb o e=>(IE.pin (b,o) (kH _ (kH _ (jl hb e)))).1,fun b hb=>?_,wE⟩
    obtain ⟨o,e,d⟩:=T.obj _ _ st7 b hb
    exact (IE.pin (b,o) (kH _ (kH _ (jl hb e)))).2.1
   cases b with
   | false=>
    rw [ko ka] at q9 ⊢
    obtain ⟨m',hm',w9⟩:=q9
    exact again I9 hm' w9
   | true=>
    rw [kq rfl] at q9 ⊢
    refine thn (he s3 H3 fp C _ s9 σ8 H9 _ I9 q9) fun yv s10 zz=>?_
    obtain ⟨y,H10,I10,r10,q10⟩:=zz
    obtain ⟨hl9,hz9,m',hm',w9⟩:=q10
    obtain ⟨z9,its,k9,rv9,ll9,e9⟩:=I10.lstM hl9
    refine call_meets F.slot_list_append ⟨_,e9,rfl⟩ F.entry_list_append (F.args_list_append_2 _ _) (PySem.list_append D its.toArray k9 yv (by rw [kx];lia)) ⟨e9,?_⟩
    have I11:=I10.lset (t':=s10.toks) (its':=its++[yv]) (f:=(·.push yv)) hl9 e9 (by simp) (rv9.append (.cons r10 .nil)) (by rw [kh,ky];lia)
    exact again I11 hm' w9
 exact codeAny_compStart_list loop (T.self _ 0 _ _ _ st4 loop)
theorem JI {elt iter tg:Expr} {ifs:List Expr} {N:List Str} {nt:Nat} {ix:List Nat} {scope:Scope} {cl:List (Str × Addr)} {pos:Pos} {wi:TI} {g:TG} {tc:TT} {te:TE} (hc:X.calm=true) (sc:jF X N nt ix scope cl) (hi:PI X tg iter wi)
  (hg:∀(s:Shared) (H:Hp) (fp:List Addr) (C:Addr),PG (qq X N scope cl s H fp C) tg g)
  (ht:∀(s:Shared) (H:Hp) (fp:List Addr) (C:Addr),PTs (qq X N scope cl s H fp C) ifs tc)
  (he:∀(s:Shared) (H:Hp) (fp:List Addr) (C:Addr),PE (qq X N scope cl s H fp C) elt te) (hs:∀x,foldedSetIterable iter X.env x=pure x:=by intro _;rfl):
  PE X (.ListComp elt [⟨tg,iter,ifs,0⟩] scope pos) (z6o nt ix wi g tc te):=by
 intro pins s σ H Q I h
 rw [eval_ListComp]
 refine wpAny_comprehension_free (use:=none) rfl hs sc.clos sc.kind sc.names (thn (hi pins s σ H _ I h) fun v s1 h1=>thn h1 fun itv s2 h2=>?_)
 obtain ⟨it,fp,tn,J,H2,e,I2,T,st2,f2,q2⟩:=h2
 subst e
 refine Zt (RR:=fun acc C=>compPost (model X.prog X.w) X.A X.xe none (EP X pins σ Q) acc C) hc sc I2 T st2 f2 hg ht he q2 ?_
 intro D C s' H' m I' n' c1 c2 c3 c4 c5 q'
 exact ⟨m,n',fun h' hs'=>⟨.ref D,H',I'.turned (t':=s'.toks) (it:=C) (fun b o hb e=>(hs'.2 b hb).trans e) c2 c1 (.inr c3) c4 c5,rfl,q'⟩⟩
theorem jR {elt iter tg:Expr} {ifs:List Expr} {N:List Str} {nt:Nat} {ix:List Nat} {y:Str} {i:Nat} {py spos:Pos} {scope:Scope} {cl:List (Str × Addr)} {pos:Pos} {wi:TI} {g:TG} {tc:TT} {te:TE} (hc:X.calm=true) (hN:X.N.Nodup) (hy:X.N[i]?=some y) (hl:Loc X.env.scope y) (sc:jF X N nt ix scope cl) (hi:PI X tg iter wi)
  (hg:∀(s:Shared) (H:Hp) (fp:List Addr) (C:Addr),PG (qq X N scope cl s H fp C) tg g)
  (ht:∀(s:Shared) (H:Hp) (fp:List Addr) (C:Addr),PTs (qq X N scope cl s H fp C) ifs tc)
  (he:∀(s:Shared) (H:Hp) (fp:List Addr) (C:Addr),PE (qq X N scope cl s H fp C) elt te)
  (hsw:autoParam (swapsWith (.ListComp elt [⟨tg,iter,ifs,0⟩] scope pos) (some (.Name y py)) spos.line X.env=pure true) aR._auto_1) (hs:∀x,foldedSetIterable iter X.env x=pure x:=by intro _;rfl)
  (hf:X.fn y=true∨X.env.scope.names.lookup y=some .local:=by first | exact .inl rfl | exact .inr rfl | assumption):
  PS X (.Assign [.Name y py] (.ListComp elt [⟨tg,iter,ifs,0⟩] scope pos) spos) (z57 i (z6o nt ix wi g tc te)):=by
 intro pins s σ H D I h
 rw [exec_Assign_Name_used _ _ _ _ hsw]
 refine wpAny_bind (wpAny_standAt (wpAny_bind ?_))
 show wpAny _ X.A (do let _ ←comprehension (.ListComp elt [⟨tg,iter,ifs,0⟩] scope pos) scope X.env _ (newList []) false (eval iter X.env) (some (assign (.Name y py) X.env))) _ _ s
 refine wpAny_bind (wpAny_mono (wpAny_comprehension_free (use:=some (assign (.Name y py) X.env)) (Q:=fun _ s'=>SP X pins D .next s') (E:=X.xe) rfl hs sc.clos sc.kind sc.names
  (thn (hi pins s σ H _ I h) fun v s1 h1=>thn h1 fun itv s2 h2=>?_)) (fun _ s' hq=>wpAny_pure (wpAny_pure hq)) fun _ _ e=>e)
 obtain ⟨it,fp,tn,J,H2,e,I2,T,st2,f2,q2⟩:=h2
 subst e
 refine Zt (Q:=fun v H1=>D.nx (σ.set i (some v)) H1) (RR:=fun acc C=>compPost (model X.prog X.w) X.A X.xe (some (assign (.Name y py) X.env)) (fun _ s'=>SP X pins D .next s') acc C) hc sc I2 T st2 f2 hg ht he q2 ?_
 intro l C s' H' m I' n' c1 c2 c3 c4 c5 q'
 show wpAny _ X.A (assign (.Name y py) X.env (.ref l)) _ _ _
 refine wpAny_assign_Name (z08 I' hN hy hl (v:=.ref l) rfl (fun s'' I'' k=>?_) hf)
 obtain ⟨a,sb,ha⟩:=k
 have hne:C≠a:=by
  rcases ha with ha | ha
  ·rw [ha];exact c1
  ·exact fun z=>c4 _ _ ha z.symm
 refine ⟨m,n'.sameBut sb hne,fun h' hs'=>?_⟩
 exact ⟨_,H',I''.turned (t':=s''.toks) (it:=C) (fun b o hb e=>(hs'.2 b hb).trans e) c2 c1 (.inr c3) c4 c5,q'⟩
end
end L2
namespace L2
open PySem PySem.Spec PyProof.Rows
theorem Inv.recast {X:Cx} {pins:List (Addr × Obj)} {σ:St} {H:Hp} {s:Shared} {d:Addr} {u u':HO} (I:Inv X pins σ H s) (e:H d=some u) (nt:∀xs,u≠.tup xs) (nb:∀ps,u≠.tbl ps) (no:∀x,u≠.own x)
  (hfz:∀o v,X.H₀ d≠some (.frz o v)) (ok:qF X.prog X.w (upd H d u') s.heap d u'):Inv X pins σ (upd H d u') s:=by
 have nn:∀b,H b=none→upd H d u' b=none:=fun b h=>by
  rw [zl (fun z=>by rw [z,e] at h;cases h)];exact h
 refine { I with base:=⟨I.base.keep,I.base.slot,fun b o q n hx=>nn b (I.base.free b o q n hx),I.base.there,fun b xs q=>?_,fun b o v q=>?_,fun b ps q=>?_⟩,free:=nn _ I.free,freeC:=fun x c q=>nn _ (I.freeC x c q),pin:=fun p hp=>?_,hok:=fun b v q=>?_ }
 ·have:=I.base.tups b xs q
  rw [zl (fun z=>by rw [z,e] at this;exact nt xs (kr this))];exact this
 ·have:=I.base.frzs b o v q
  rw [zl (fun z=>hfz o v (by rw [←z];exact q))];exact this
 ·obtain ⟨m,h⟩:=I.base.tbls b ps q
  exact ⟨m,by rw [zl (fun z=>by rw [z,e] at h;exact nb _ (kr h))];exact h⟩
 ·obtain ⟨a,b,c⟩:=I.pin p hp
  exact ⟨a,nn _ b,c⟩
 ·by_cases hb:b=d
  ·subst hb;rw [zb] at q;cases q;exact ok
  ·rw [zl hb] at q
   refine (I.hok b v q).stay (fun _ _ _ z=>z) (fun c z=>?_) fun c xs z=>?_
   ·rw [zl (fun y=>by rw [y,e] at z;exact no _ (kr z))];exact z
   ·rw [zl (fun y=>by rw [y,e] at z;exact nt _ (kr z))];exact z
theorem Inv.nofrz {X:Cx} {pins:List (Addr × Obj)} {σ:St} {H:Hp} {s:Shared} {d:Addr} {u:HO} (I:Inv X pins σ H s) (e:H d=some u) (nf:∀o v,u≠.frz o v):∀o v,X.H₀ d≠some (.frz o v):=fun o v q=>by
 have:=I.base.frzs d o v q
 rw [e] at this
 exact nf o v (kr this)
theorem z4g {k:Key} {u:Value} (h:z1u k u=true):RelV (kV k) u:=by
 rcases qp h with ⟨i,t,rfl,rfl⟩ | ⟨x,t,rfl,rfl⟩
 ·exact ⟨t,rfl⟩
 ·exact ⟨t,rfl⟩
theorem KV.get {kvs:List (Key × V)} {vs:List (Key × Value)} (r:KV kvs vs):∀{i:Nat} {p:Key × V},kvs[i]?=some p→∃v,vs[i]?=some (p.1,v)∧RelV p.2 v:=by
 unfold KV at r
 induction r with
 | nil=>intro i p h;simp at h
 | @cons p q ps qs h t ih=>
  intro i p' hp
  cases i with
  | zero=>
   simp at hp
   subst hp
   exact ⟨q.2,by rw [h.1];rfl,h.2⟩
  | succ i=>
   obtain ⟨v,h1,h2⟩:=ih (by simpa using hp)
   exact ⟨v,by simpa using h1,h2⟩
noncomputable def Itd (a:Addr) (o:Obj) (kvs:List (Key × V)):It:=
 ⟨fun i H=>H a=some (.frz o (.dK kvs))∧i < kvs.length,fun i H x H'=>∃p k v,x=.ref p∧H p=none∧kvs[i]?=some (k,v)∧H'=upd H p (.tup [kV k,v]),fun i H=>H a=some (.frz o (.dK kvs))∧kvs.length≤i⟩
theorem z4A:entryFor table "dict_itemiterator.__iter__"=some Builtin.«dict_keyiterator.__iter__»:=
 entryFor_alias (id':="dict_keyiterator.__iter__") (by rw [fastTable_eq_tree];kernel_rfl) (by kernel_rfl) (by kernel_rfl) (by rw [fastTable_eq_tree];kernel_rfl)
theorem jZ {prog:Program} {w:World} {A:Around} {E:Value→Shared→Prop} {s:Shared} {it d:Addr} {i n ep:Nat} {ok ov:Value} {Q:Value→Shared→Prop} (he:IsItemIter s.heap it d i n ep ok ov) (h:Q (.ref it) s):
  wpAny (model prog w) A (pyIter (.ref it)) Q E s:=by
 have hT:s.TypeIs (.ref it) "dict_itemiterator":=⟨_,he,rfl⟩
 refine wpAny_pyIter_slot hT F.slot_dict_itemiterator_iter (wpAny_call_entry F.slot_dict_itemiterator_iter hT z4A ?_ (F.args_dict_itemiterator_iter_1 _))
 show wpAny _ _ (ret (.ref it)) _ _ s
 exact wpAny_pure ⟨_,rfl,"dict_itemiterator",_,hT,F.slot_dict_itemiterator_next.lookup,h⟩
theorem z2v {P:Program} {w:World} {K:kn} {elts:List Expr} {x1} {pos:Pos} (a it:Addr) (o:Obj) (kvs:List (Key × V)):
  Turn P w K (.Tuple elts x1 pos) (Itd a o kvs) [it] it (fun i h=>∃es ep ok ov,o.data=.dict es ep∧IsItemIter h it a i kvs.length ep ok ov) where
 mem:=by simp
 obj:=fun i h st b hb=>by
  have z:b=it:=by simpa using hb
  subst z
  obtain ⟨es,ep,ok,ov,_,q⟩:=st
  exact ⟨_,q,fun v y=>by cases y⟩
 keep:=fun i h h' st k=>let ⟨es,ep,ok,ov,d,q⟩:=st;⟨es,ep,ok,ov,d,k it (by simp) _ q⟩
 item:=by
  intro X hP hw hK hc i pins s σ H E I hf st hg
  subst hP hw hK
  obtain ⟨hq,hi⟩:=hg
  obtain ⟨es,ep,ok,ov,hd,hit⟩:=st
  obtain ⟨ho,hz,hsy,vs,rel,ob,es',ep',hob,hex,hdat,r3⟩:=(show qF X.prog X.w H s.heap a (.frz o (.dK kvs)) from I.hok a _ hq)
  rw [ho] at hob
  cases hob
  rw [hd] at hdat
  cases hdat
  have hm:s.heap.DictAt (qj X.prog X.w) a vs ep:=⟨o,es,ho,hex,hd,r3⟩
  have hlen:kvs.length=vs.length:=Paired.length rel
  obtain ⟨p,hp⟩:∃p,kvs[i]?=some p:=⟨kvs[i],kF hi⟩
  obtain ⟨v,hv,rv⟩:=rel.get hp
  have fi:=hf it (by simp)
  rw [hlen] at hit
  refine wpAny_pyNext_items_item hit hm hv fun key h' hkey heo ht hsz hk=>⟨_,rfl,?_⟩
  have rk:RelV (kV p.1) key:=z4g hkey
  have new:qF X.prog X.w (upd H s.heap.objs.size (.tup [kV p.1,p.2])) h' s.heap.objs.size (.tup [kV p.1,p.2]):=⟨by show 2≤sizeLine;decide,[key,v],.cons rk (.cons rv .nil),_,ht,rfl,_,rfl⟩
  have I1:Inv X pins σ (upd H s.heap.objs.size (.tup [kV p.1,p.2])) { s with heap:=h',toks:=s.toks }:=I.turned2 (e:=it) (it:=it) (t':=s.toks) (fun b o hb _ e=>hk b o hb e) (fun b hb=>by
   have z:b=it:=by simpa using hb
   subst z;exact ⟨_,heo⟩) fi fi new
  have ne1:it≠s.heap.objs.size:=Nat.ne_of_lt (Heap.lt_size hit)
  refine wpAny_letOwnedTupleGo_items (s:={ s with heap:=h' }) heo fun h2 he2 hs2=>?_
  refine ⟨.ref s.heap.objs.size,_,I1.turned (t':=s.toks) (it:=it) (fun b o hb q=>(hs2.2 b hb).trans q) (by rw [zl ne1];exact fi.1) fi.2.1 fi.2.2.2.1 fi.2.2.2.2.1 fi.2.2.2.2.2,rfl,⟨_,p.1,p.2,rfl,I.fresh,hp,rfl⟩,⟨es,ep,key,v,hd,by rw [hlen];exact he2⟩,fun b hb=>?_⟩
  have z:b=it:=by simpa using hb
  subst z;rw [zl ne1];exact fi.1
 done:=by
  intro X hP hw hK hc i pins s σ H E I hf st hg
  subst hP hw hK
  obtain ⟨hq,hi⟩:=hg
  obtain ⟨es,ep,ok,ov,hd,hit⟩:=st
  obtain ⟨ho,hz,hsy,vs,rel,ob,es',ep',hob,hex,hdat,r3⟩:=(show qF X.prog X.w H s.heap a (.frz o (.dK kvs)) from I.hok a _ hq)
  rw [ho] at hob
  cases hob
  rw [hd] at hdat
  cases hdat
  have hm:s.heap.DictAt (qj X.prog X.w) a vs ep:=⟨o,es,ho,hex,hd,r3⟩
  have hlen:kvs.length=vs.length:=Paired.length rel
  rw [hlen] at hit hi
  obtain ⟨f0,f1,f2,f3,f4,f5⟩:=hf it (by simp)
  exact wpAny_pyNext_items_end (I.ok.hd hc) hit hm (by rw [List.getElem?_eq_none_iff];exact hi) fun h' eb=>⟨rfl,I.turned (t':=s.toks) (fun b o hb e=>eb b o hb e) f0 f1 f3 f4 f5⟩
 self:=fun _ _ _ _ _ st h=>let ⟨es,ep,ok,ov,_,q⟩:=st;jZ q h
section
variable {X:Cx}
def z86 (nt:Nat) (ix:List Nat) (td:TE) (g:TG) (tc:TT) (te:TE):TE:=fun σ H Q=>td σ H fun x H1=>∃a kvs,x=.ref a∧H1 a=some (.dK kvs)∧∀o l,H1 l=none→∃W:Nat→Nat→List V→St→Hp→Prop,(∃m,W 0 m [] (Qi nt ix σ) (upd (upd H1 a (.frz o (.dK kvs))) l (.lst [])))∧∀i m ys σ' H2,W i m ys σ' H2→
 H2 a=some (.frz o (.dK kvs))∧(kvs.length≤i→Q (.ref l) (upd H2 a (.dK kvs)))∧(∀p k v,kvs[i]?=some (k,v)→H2 p=none→g (.ref p) σ' (upd H2 p (.tup [kV k,v])) fun σ2 H4=>tc σ2 H4 fun b H5=>if b=true then te σ2 H5 fun v H6=>H6 l=some (.lst ys)∧ys.length < sizeLine∧∃m',m' < m∧W (i+1) m' (ys++[v]) σ2 (upd H6 l (.lst (ys++[v])))
  else ∃m',m' < m∧W (i+1) m' ys σ2 H5)
theorem z5n {elt o:Expr} {elts:List Expr} {x1} {tp apos cpos:Pos} {ifs:List Expr} {N:List Str} {nt:Nat} {ix:List Nat} {scope:Scope} {cl:List (Str × Addr)} {pos:Pos} {td:TE} {g:TG} {tc:TT} {te:TE} (hc:X.calm=true) (sc:jF X N nt ix scope cl) (ho:PE X o td)
  (hg:∀(s:Shared) (H:Hp) (fp:List Addr) (C:Addr),PG (qq X N scope cl s H fp C) (.Tuple elts x1 tp) g)
  (ht:∀(s:Shared) (H:Hp) (fp:List Addr) (C:Addr),PTs (qq X N scope cl s H fp C) ifs tc)
  (he:∀(s:Shared) (H:Hp) (fp:List Addr) (C:Addr),PE (qq X N scope cl s H fp C) elt te) (hs:∀x,foldedSetIterable (.Call (.Attribute o "items" apos) [] [] cpos) X.env x=pure x:=by intro _;rfl)
  (hbase:autoParam (attributeBase o "items" X.env (eval o X.env)=eval o X.env) aR._auto_1) (hline:autoParam ((apos.endLine == cpos.line)=true) aR._auto_1):
  PE X (.ListComp elt [⟨.Tuple elts x1 tp,.Call (.Attribute o "items" apos) [] [] cpos,ifs,0⟩] scope pos) (z86 nt ix td g tc te):=by
 intro pins s σ H Q I h
 rw [eval_ListComp]
 refine wpAny_comprehension_free (use:=none) rfl hs sc.clos sc.kind sc.names ?_
 refine wpAny_Call_method0_late hbase hline (thn (ho pins s σ H _ I h) fun v s1 zz=>?_)
 obtain ⟨x,H1,I1,r1,a,kvs,ex,ha,q1⟩:=zz
 subst ex
 cases r1
 obtain ⟨hz,hsy,vs,rel,dd⟩:=z63 I1.hok ha
 obtain ⟨ob,es,ep,hob,hex,hdat,r3⟩:=id dd
 have hlen:kvs.length=vs.length:=Paired.length rel
 refine ⟨"dict",_,F.plainAttrs_dict,F.slot_dict_items,F.type_dict_items,⟨ob,hob,hex.1⟩,fun b z=>(by cases z;exact ⟨ob,hob,hex.2.1⟩),Calls.callWith_builtin rfl (PySem.evalArgs_none ?_)⟩
 refine call_meetsIn F.slot_dict_items dd.typeIs F.entry_dict_items (F.args_dict_items_1 _) (meets_dict_items (qj X.prog X.w) a hsy) ⟨⟨vs,dd⟩,?_⟩
 have k2:∀b o,s1.heap.get? b=some o→(s1.heap.push { cls:=.type "dict_items",data:=.fields #[.ref a] }).get? b=some o:=fun b o e=>Heap.get?_push_of_some _ e
 have I2:Inv X pins σ H1 { s1 with heap:=s1.heap.push { cls:=.type "dict_items",data:=.fields #[.ref a] } }:=I1.kept (t':=s1.toks) k2
 have hm:(s1.heap.push { cls:=.type "dict_items",data:=.fields #[.ref a] }).DictAt (qj X.prog X.w) a vs ep:=⟨ob,es,k2 _ _ hob,hex,hdat,r3⟩
 generalize hs2:({ s1 with heap:=s1.heap.push { cls:=.type "dict_items",data:=.fields #[.ref a] } }:Shared)=s2 at *
 have hm2:s2.heap.DictAt (qj X.prog X.w) a vs ep:=by rw [←hs2];exact hm
 have hview:s2.heap.IsItemsView s1.heap.objs.size a:=⟨_,by rw [←hs2];exact Heap.get?_push_size _ rfl,rfl,rfl⟩
 refine wpAny_pyIter_items hview hm2 ?_
 have k3:∀b o,s2.heap.get? b=some o→(s2.heap.push { cls:=.type "dict_itemiterator",data:=.fields #[.none,.bool false,.ref a,.int 0 0,.int vs.length 0,.int ep 0,.none,.none] }).get? b=some o:=fun b o e=>Heap.get?_push_of_some _ e
 have I3:Inv X pins σ H1 { s2 with heap:=s2.heap.push { cls:=.type "dict_itemiterator",data:=.fields #[.none,.bool false,.ref a,.int 0 0,.int vs.length 0,.int ep 0,.none,.none] } }:=I2.kept (t':=s2.toks) k3
 have hob3:(s2.heap.push { cls:=.type "dict_itemiterator",data:=.fields #[.none,.bool false,.ref a,.int 0 0,.int vs.length 0,.int ep 0,.none,.none] }).get? a=some ob:=k3 _ _ (by rw [←hs2];exact k2 _ _ hob)
 have nf:=I3.nofrz ha (fun _ _=>nofun)
 have I4:=I3.recast (u':=.frz ob (.dK kvs)) ha (fun _=>nofun) (fun _=>nofun) (fun _=>nofun) nf ⟨hob3,hz,hsy,vs,rel,ob,es,ep,hob3,hex,hdat,r3⟩
 have itn:H1 s2.heap.objs.size=none:=I2.fresh
 have nea:s2.heap.objs.size≠a:=(zh ha itn).symm
 refine Zt (Q:=fun v H'=>H' a=some (.frz ob (.dK kvs))∧Q v (upd H' a (.dK kvs))) (RR:=fun acc C=>compPost (model X.prog X.w) X.A X.xe none (EP X pins σ Q) acc C) hc sc I4 (z2v a s2.heap.objs.size ob kvs) ⟨es,ep,.none,.none,hdat,by rw [hlen];exact Heap.get?_push_size _ rfl⟩ (fun b hb=>?_) hg ht he (fun l hl=>?_) ?_
 ·have z:b=s2.heap.objs.size:=by simpa using hb
  subst z
  exact I2.fpOk (kc _) (by rw [zl nea];exact itn)
 ·have hl1:H1 l=none:=by
   cases q:H1 l with
   | none=>rfl
   | some u=>
    by_cases z:l=a
    ·subst z;rw [zb] at hl;cases hl
    ·rw [zl z,q] at hl;cases hl
  obtain ⟨W,w0,turn⟩:=q1 ob l hl1
  refine ⟨W,w0,fun i m ys σ' H2 hW=>?_⟩
  obtain ⟨t1,t2,t3⟩:=turn i m ys σ' H2 hW
  by_cases hlt:i < kvs.length
  ·refine .inr ⟨⟨t1,hlt⟩,fun x H3 y=>?_⟩
   obtain ⟨p,k,v,rfl,hp,hkv,rfl⟩:=y
   exact t3 p k v hkv hp
  ·exact .inl ⟨⟨t1,by lia⟩,t1,t2 (by lia)⟩
 ·intro D C s' H' m I' n' c1 c2 c3 c4 c5 q'
  obtain ⟨q5,q6⟩:=q'
  refine ⟨m,n',fun h' hs'=>?_⟩
  have I5:=I'.turned (t':=s'.toks) (it:=C) (h':=h') (fun b o hb e=>(hs'.2 b hb).trans e) c2 c1 (.inr c3) c4 c5
  obtain ⟨hob5,ok5⟩:=(show qF X.prog X.w H' h' a (.frz ob (.dK kvs)) from I5.hok a _ q5)
  obtain ⟨z1,z2,vs',rel',dd'⟩:=(show qF X.prog X.w H' h' a (.dK kvs) from ok5)
  exact ⟨.ref D,_,I5.recast (u':=.dK kvs) q5 (fun _=>nofun) (fun _=>nofun) (fun _=>nofun) nf ⟨z1,z2,vs',rel',dd'⟩,rfl,q6⟩
theorem z51 {bs:List Bool} {us:List Value} (r:Vals (bs.map V.bl) us):us=bs.map Value.bool:=by
 induction bs generalizing us with
 | nil=>cases r;rfl
 | cons b bs ih=>
  cases r with
  | cons x y=>cases x;rw [ih y];rfl
theorem ZS (hc:X.calm=true):Jd X (.builtin "all") (fun xs H Q=>∃(p:Addr) (bs:List Bool),xs=[.ref p]∧SqL X.K H p (bs.map V.bl)∧Q (.bl (bs.all id)) H):=by
 intro pins s σ H xs us Q I r h
 obtain ⟨p,bs,rfl,hS,q⟩:=h
 obtain ⟨u,rfl,ru⟩:=z2t r
 cases ru
 obtain ⟨its,rv,pl,hz⟩:=I.list hS
 obtain rfl:=z51 rv
 have hh:X.A.in1.handled=none:=I.ok.hd hc
 have hne:p≠s.heap.objs.size:=Nat.ne_of_lt (by obtain ⟨o,_,e,_⟩:=pl;exact Heap.lt_size e)
 refine call_all_walk (wpAny_pyIter_list pl.isList ?_)
 refine ⟨s.heap.objs.size,_,_,_,_,_,fun i=>(bs[i]?).getD true,rfl,Walks.list hh s.heap.objs.size p hne (bs.map Value.bool).toArray,⟨⟨_,Heap.get?_push_size _ rfl,rfl,rfl⟩,pl.isList.push _⟩,fun i v s' Q' E' hv hq=>?_,fun h' tk hk=>?_⟩
 ·have hv:(bs.map Value.bool).toArray[i]?=some v:=hv
  rw [List.getElem?_toArray,List.getElem?_map] at hv
  cases hb:bs[i]? with
  | none=>rw [hb] at hv;cases hv
  | some b=>
   rw [hb] at hv
   cases hv
   have hq:Q' ((bs[i]?).getD true) s':=hq
   rw [hb] at hq
   exact wpAny_truthy_bool hq
 ·have e:(List.range (bs.map Value.bool).toArray.size).all (fun i=>(bs[i]?).getD true)=bs.all id:=by
   rw [kx,kg,Bool.eq_iff_iff,List.all_eq_true,List.all_eq_true]
   constructor
   ·intro h b hb
    obtain ⟨i,hi⟩:=List.getElem?_of_mem hb
    have:=h i (List.mem_range.mpr (kd.mp hi).1)
    rw [hi] at this
    exact this
   ·intro h i hi
    rw [kF (List.mem_range.mp hi)]
    exact h _ (List.getElem_mem _)
  rw [e]
  refine ⟨.bl _,H,I.kept (t':=tk) fun b o e=>hk b o (fun z=>?_) (Heap.get?_push_of_some _ e),rfl,q⟩
  have:b=s.heap.objs.size:=by simpa using z
  rw [this] at e
  exact absurd (Heap.lt_size e) (Nat.lt_irrefl _)
theorem z01:Jd X (.type "bool") (fun xs H Q=>∃x,xs=[x]∧((x=.non∧Q (.bl false) H)∨(∃b,x=.bl b∧Q (.bl b) H)∨(∃i,x=.int i∧Q (.bl (i != 0)) H)∨∃z,x=.str z∧z.length≤sizeLine∧Q (.bl ((z.length:Int) != 0)) H)):=by
 intro pins s σ H xs us Q I r h
 obtain ⟨x,rfl,h⟩:=h
 obtain ⟨u,rfl,ru⟩:=z2t r
 rcases h with ⟨rfl,q⟩ | ⟨b,rfl,q⟩ | ⟨i,rfl,q⟩ | ⟨z,rfl,hz,q⟩
 ·cases ru;exact call_bool_none ⟨.bl false,H,I,rfl,q⟩
 ·cases ru;exact call_bool_bool ⟨.bl b,H,I,rfl,q⟩
 ·obtain ⟨t,rfl⟩:=ru;exact call_bool_int ⟨.bl _,H,I,rfl,q⟩
 ·obtain ⟨t,rfl⟩:=ru
  have:=J1
  exact call_bool_str (by lia) ⟨.bl _,H,I.tok _,rfl,q⟩
def z82 (tab:List (Str × V)) (ty tx:TE):TE:=fun σ H Q=>ty σ H fun y H1=>tx σ H1 fun z H2=>∃x,y=.str x∧Q ((tab.lookup x).getD z) H2
theorem Qy {nm:Str} {e f:Expr} {p apos cpos:Pos} {d:Addr} {tab:List (Str × V)} {ty tx:TE} (T:KTab X.w.params X.K d tab) (hg:Gl X nm) (hm:X.mg nm=some (.ref d)) (he:PE X e ty) (hf:PE X f tx) (m:M2 X (.Name nm p) "get" apos e f cpos) (hd:autoParam ((nm == ("__debug__":Str))=false) aR._auto_2):
  PE X (.Call (.Attribute (.Name nm p) "get" apos) [e,f] [] cpos) (z82 tab ty tx):=by
 intro pins s σ H Q I h
 refine wpAny_Call_method m.base m.few m.line PySem.F.plainAttrs_dict PySem.F.slot_dict_get PySem.F.type_dict_get (Q4 I hg hm ?_ hd)
 obtain ⟨es,n,hl,hk,hsy,hp⟩:=id T
 have ho:=I.kIn d _ hl
 refine ⟨⟨_,ho,rfl⟩,fun b z=>(by cases z;exact ⟨_,ho,rfl⟩),?_⟩
 rw [m.trees]
 refine Calls.callWith_builtin rfl (Calls.evalArgs_plain (Calls.spliced_cons (thn (he pins s σ H _ I h) fun iv s2 ⟨y,H2,I2,ry,q2⟩=>
  Calls.spliced_cons (thn (hf pins s2 σ H2 _ I2 q2) fun fv s3 ⟨z,H3,I3,rz,x,ex,q3⟩=>Calls.spliced_nil ?_))))
 subst ex
 obtain ⟨t,rfl⟩:=ry
 obtain ⟨fm,mo,_,hf⟩:=Qz (prog:=X.prog) (w:=X.w) rfl T I3.kIn
 refine call_meetsIn PySem.F.slot_dict_get mo.typeIs PySem.F.entry_dict_get (PySem.F.args_dict_get_3 _ _ _) (meets_dict_get_default (strKind X.prog X.w) d (strKind_is X.prog X.w x t) hsy fv) ⟨_,mo,_,H3,I3.tok _,(hf x).getD rz,q3⟩
end
end L2
namespace L2
open PySem PySem.Spec PyProof.Rows
section
variable {X:Cx}
theorem PSs.imp {st:List Stmt} {t t':TS} (h:PSs X st t) (hi:∀D σ H,t' D σ H→t D σ H):PSs X st t':=fun pins s σ H D I q=>h pins s σ H D I (hi D σ H q)
noncomputable def jJ:V→PyData
 | .int i=>.int i
 | .str x=>.str x
 | .bl b=>.bool b
 | _=>.none
theorem z32 {h:Heap} {x:V} {u:Value} (f:Zk x=true) (r:RelV x u):Reads h u (jJ x) []:=by
 cases x with
 | non=>cases r;exact .none
 | bl b=>cases r;exact .bool b
 | int i=>obtain ⟨t,rfl⟩:=r;exact .int i t
 | str z=>obtain ⟨t,rfl⟩:=r;exact .str z t
 | _=>cases f
theorem z1E (x:V):(jJ x).hasDict=false∧(jJ x).depth=0:=by
 cases x <;> exact ⟨by simp only [jJ,PyData.hasDict],by simp only [jJ,PyData.depth]⟩
theorem Qh:∀xs:List V,PyData.hasDictAll (xs.map jJ)=false∧PyData.depthAll (xs.map jJ)=0
 | []=>⟨by simp only [List.map_nil,PyData.hasDictAll],by simp only [List.map_nil,PyData.depthAll]⟩
 | x :: xs=>by
  obtain ⟨a,b⟩:=z1E x
  obtain ⟨c,d⟩:=Qh xs
  exact ⟨by simp only [kN,PyData.hasDictAll,a,c,Bool.or_self],by simp only [kN,PyData.depthAll,b,d];rfl⟩
end
end L2
namespace L2
open PySem PySem.Spec PyProof.Rows
mutual
inductive RdV (K:kn) (H:Hp):V→PyData→Prop where
 | flat {x:V} (f:Zk x=true):RdV K H x (jJ x)
 | tup {a:Addr} {xs:List V} {ds:List PyData} (h:SqT K H a xs) (r:RdVs K H xs ds):RdV K H (.ref a) (.tuple ds)
 | lst {a:Addr} {xs:List V} {ds:List PyData} (h:SqL K H a xs) (r:RdVs K H xs ds):RdV K H (.ref a) (.list ds)
inductive RdVs (K:kn) (H:Hp):List V→List PyData→Prop where
 | nil:RdVs K H [] []
 | cons {x:V} {d:PyData} {xs:List V} {ds:List PyData} (h:RdV K H x d) (t:RdVs K H xs ds):RdVs K H (x :: xs) (d :: ds)
end
section
variable {X:Cx} {pins:List (Addr × Obj)} {σ:St} {H:Hp} {s:Shared}
mutual
theorem JE (I:Inv X pins σ H s) {x:V} {u:Value} {d:PyData} (r:RelV x u) (h:RdV X.K H x d):∃as,Reads s.heap u d as:=by
 cases h with
 | flat f=>exact ⟨_,z32 f r⟩
 | tup h t=>
  cases r
  obtain ⟨its,rv,⟨o,ho,hc,m,hd⟩,_⟩:=I.tuple h
  obtain ⟨as,q⟩:=QN I rv t
  exact ⟨_,.tuple ho hc hd q⟩
 | lst h t=>
  cases r
  obtain ⟨its,rv,⟨o,m,ho,hc,_,hd⟩,_⟩:=I.list h
  obtain ⟨as,q⟩:=QN I rv t
  exact ⟨_,.list ho hc hd q⟩
theorem QN (I:Inv X pins σ H s) {xs:List V} {us:List Value} {ds:List PyData} (r:Vals xs us) (h:RdVs X.K H xs ds):∃as,ReadsAll s.heap us ds as:=by
 cases h with
 | nil=>cases r;exact ⟨_,.nil⟩
 | cons h t=>
  cases r with
  | cons r1 r2=>
   obtain ⟨as,q1⟩:=JE I r1 h
   obtain ⟨bs,q2⟩:=QN I r2 t
   exact ⟨_,.cons q1 q2⟩
end
end
noncomputable def z6v (d:PyData):Bool:=d.showable&& !d.hasDict&&decide (d.depth≤5)&&decide (d.shown.length≤2000)
def z80 (K:kn) (t:TE):TE:=fun σ H Q=>t σ H fun x H1=>∃a d,x=.ref a∧RdV K H1 x d∧z6v d=true∧Q (.str d.shown) H1
theorem z92 {X:Cx} {value:Expr} {pos:Pos} {t:TE} (hr:Room 1 X.A) (h:PE X value t):PE X (.FormattedValue value (-1) none pos) (z80 X.K t):=by
 intro pins s σ H Q I hq
 refine wpAny_FormattedValue_plain (thn (h pins s σ H _ I hq) fun v s1 h1=>?_)
 have hg:=hr.gd
 have hu:=hr.un
 obtain ⟨x,H1,I1,r1,a,d,rfl,hR,hk,q⟩:=h1
 cases r1
 obtain ⟨as,rr⟩:=JE I1 (x:=.ref a) (u:=.ref a) rfl hR
 unfold z6v at hk
 simp only [kX,kY,Bool.not_eq_true'] at hk
 obtain ⟨⟨⟨k1,k2⟩,k3⟩,k4⟩:=hk
 refine formatField_of_reads rr k1 (PyData.noDict_hsm k2) hg (by lia) (fun _ _ e=>e) (fun h' u tk hk=>?_) ?_
 ·exact ⟨.str _,H1,I1.kept hk,⟨_,rfl⟩,q⟩
 ·rw [sizeLine_eq]
  lia
end L2
namespace L2
open PySem PySem.Spec PyProof.Rows
section
variable {X:Cx}
end
structure z52 (d:PyData):Prop where
 sh:d.showable=true
 nd:d.hasDict=false
 dp:d.depth≤5
 ln:d.shown.length≤100000
def z7Z (K:kn) (t:TE):TE:=fun σ H Q=>t σ H fun x H1=>∃a d,x=.ref a∧RdV K H1 x d∧z52 d∧Q (.str d.shown) H1
theorem z5j {X:Cx} {value:Expr} {pos:Pos} {t:TE} (hr:Room 1 X.A) (h:PE X value t):PE X (.FormattedValue value (-1) none pos) (z7Z X.K t):=by
 intro pins s σ H Q I hq
 refine wpAny_FormattedValue_plain (thn (h pins s σ H _ I hq) fun v s1 h1=>?_)
 have hg:=hr.gd
 have hu:=hr.un
 obtain ⟨x,H1,I1,r1,a,d,rfl,hR,⟨k1,k2,k3,k4⟩,q⟩:=h1
 cases r1
 obtain ⟨as,rr⟩:=JE I1 (x:=.ref a) (u:=.ref a) rfl hR
 refine formatField_of_reads rr k1 (PyData.noDict_hsm k2) hg (by lia) (fun _ _ e=>e) (fun h' u tk hk=>?_) ?_
 ·exact ⟨.str _,H1,I1.kept hk,⟨_,rfl⟩,q⟩
 ·rw [sizeLine_eq]
  lia
def Za (x:V):Prop:=Zk x=true∧(jJ x).showable=true∧(jJ x).shown.length≤60
theorem z0Y:∀{xs:List V},(∀x∈xs,Za x)→xs.all Zk=true∧PyData.showableAll (xs.map jJ)=true∧((PyData.shownAll (xs.map jJ)).map (fun t=>t.length)).sum≤60 * xs.length∧(PyData.shownAll (xs.map jJ)).length=xs.length
 | [],_=>⟨rfl,by simp only [List.map_nil,PyData.showableAll],by simp only [List.map_nil,PyData.shownAll];decide,by simp only [List.map_nil,PyData.shownAll];rfl⟩
 | x :: xs,h=>by
  obtain ⟨a,b,c,d⟩:=z0Y (xs:=xs) fun y hy=>h y (kL _ hy)
  obtain ⟨e,f,g⟩:=h x (kK ..)
  refine ⟨by rw [List.all_cons,e,a];rfl,by simp only [kN,PyData.showableAll,f,b,Bool.and_self],?_,?_⟩
  ·simp only [kN,PyData.shownAll,List.sum_cons,kJ]
   lia
  ·simp only [kN,PyData.shownAll,kJ]
   lia
end L2
theorem zU0 {C:List PySem.Value→Prop} (h:C []):∀us:List PySem.Value,us.length=0→C us:=by
 intro us hl
 cases us with
 | nil=>exact h
 | cons a t=>exact absurd hl (Nat.succ_ne_zero _)
theorem zU1 {C:List PySem.Value→Prop} (h:∀a,C [a]):∀us:List PySem.Value,us.length=1→C us:=by
 intro us hl
 cases us with
 | nil=>exact absurd hl.symm (Nat.succ_ne_zero _)
 | cons a t=>exact zU0 (C:=fun t=>C (a :: t)) (h a) t (Nat.succ.inj hl)
theorem zU2 {C:List PySem.Value→Prop} (h:∀a b,C [a,b]):∀us:List PySem.Value,us.length=2→C us:=by
 intro us hl
 cases us with
 | nil=>exact absurd hl.symm (Nat.succ_ne_zero _)
 | cons a t=>exact zU1 (C:=fun t=>C (a :: t)) (h a) t (Nat.succ.inj hl)
theorem zU3 {C:List PySem.Value→Prop} (h:∀a b c,C [a,b,c]):∀us:List PySem.Value,us.length=3→C us:=by
 intro us hl
 cases us with
 | nil=>exact absurd hl.symm (Nat.succ_ne_zero _)
 | cons a t=>exact zU2 (C:=fun t=>C (a :: t)) (h a) t (Nat.succ.inj hl)
theorem zU4 {C:List PySem.Value→Prop} (h:∀a b c d,C [a,b,c,d]):∀us:List PySem.Value,us.length=4→C us:=by
 intro us hl
 cases us with
 | nil=>exact absurd hl.symm (Nat.succ_ne_zero _)
 | cons a t=>exact zU3 (C:=fun t=>C (a :: t)) (h a) t (Nat.succ.inj hl)
theorem zU5 {C:List PySem.Value→Prop} (h:∀a b c d e,C [a,b,c,d,e]):∀us:List PySem.Value,us.length=5→C us:=by
 intro us hl
 cases us with
 | nil=>exact absurd hl.symm (Nat.succ_ne_zero _)
 | cons a t=>exact zU4 (C:=fun t=>C (a :: t)) (h a) t (Nat.succ.inj hl)
namespace My
open PySem PySem.Spec PyProof.Rows L2
variable {P:Program} {w:World} {K:kn} {mg:Str→Option Value} {base:Heap}
theorem fsM {N P:List Str} {sc:Scope} (a:autoParam (sc.kind=.function) aR._auto_1) (b:autoParam (sc.isCoroutine=false) aR._auto_1) (c:autoParam (sc.isGenerator=false) aR._auto_1) (d:N.Nodup:=by trivial) (e:autoParam (N.take P.length=P) aR._auto_1)
  (f:∀x∈P,sc.names.lookup x=some .local∨sc.names.lookup x=some .cell:=by trivial) (g:∀y∈sc.names,y.2≠.free:=by trivial):zn N P sc:=⟨a,b,c,d,e,f,g⟩
theorem Jo {X:Cx} {o e:Expr} {es:List Expr} {to:TE} {t:TA} {apos cpos:Pos} (ho:PE X o to) (ha:PA X (e :: es) t) (hbase:autoParam (attributeBase o "append" X.env (eval o X.env)=eval o X.env) aR._auto_1)
  (hfew:autoParam (((backTo cpos (starEach (e :: es) X.env)).all (fun x=> !x.1)&&(backToKw cpos (keywordEach [] X.env)).all (fun x=>x.1.isSome)&&decide ((e :: es).length+([]:List Keyword).length+(if ([]:List Keyword).isEmpty then 0 else 1) < 30))=true) aR._auto_1)
  (hline:autoParam ((apos.endLine == cpos.line)=true) aR._auto_1) (hs:autoParam (starEach (e :: es) X.env=(false,eval e X.env) :: starEach es X.env) aR._auto_1) (hplain:autoParam ((backTo cpos (starEach es X.env)).any (·.1)=false) aR._auto_1):PE X (.Call (.Attribute o "append" apos) (e :: es) [] cpos) (tBM X.K "list" z1l to t):=z8o PySem.F.plainAttrs_list PySem.F.slot_list_append PySem.F.type_list_append z47 ho ha hbase hfew hline hs hplain
noncomputable def top (i:Nat):Stmt:=PySem.Challenge.pw_codemill_k41_whole_nothing_to_fold.main.body.getD i (.Pass ⟨0,0,0,0⟩)
def FN (P:Program) (w:World) (K:kn) (mg:Str→Option Value) (base:Heap) (k:Nat) (name:Str) (ps:List Str) (sp:Sp):Prop:=
 ∃f fd,mg name=some (.ref f)∧PySem.W.keepIn K (.ref f)=true∧Jg K fd ps []∧FnOk P w K mg base CX0 k f fd ps sp
def zt (K:kn) (mg:Str→Option Value) (name:Str) (st:Stmt):Prop:=∃f fd,Fun K name name st f fd∧mg name=some (.ref f)
section
theorem FN.mono {j k:Nat} {name:Str} {ps:List Str} {sp:Sp} (F:FN P w K mg base j name ps sp) (h:j≤k):FN P w K mg base k name ps sp:=by
 obtain ⟨f,fd,a,b,c,d⟩:=F
 exact ⟨f,fd,a,b,c,d.mono h⟩
theorem FN.imp {k:Nat} {name:Str} {ps:List Str} {sp sp':Sp} (F:FN P w K mg base k name ps sp) (h:∀vs H Q E,sp' vs H Q E→sp vs H Q E):FN P w K mg base k name ps sp':=by
 obtain ⟨f,fd,a,b,c,d⟩:=F
 exact ⟨f,fd,a,b,c,d.imp h⟩
theorem FN.of {name:Str} {st:Stmt} {N ps:List Str} {sp:Sp} {k:Nat} (D:zt K mg name st) (S:zn N ps (ze st))
  (hb:∀(kV doc pm:Value) (an:Option Addr) (cdv ct:Value) (us:List Value),us.length=ps.length→bindArgs (PySem.W.fnOf name name (qH st) (zV st) (ze st) .none kV doc pm an cdv ct) ⟨us,[]⟩=pure (ps.zip us))
  (len:∀vs H Q E,sp vs H Q E→vs.length=ps.length)
  (hbody:∀(f:Addr) (cdv:Value) (A:Around) (outer:List Env) (s:Shared) (H:Hp) (vs:List V) (Q:VK) (E:XK),Room k (A.deeper (envOfC name (ze st) s.heap.objs.size f cdv))→sp vs H Q E→
   ∃t,PSs (cxOf CX0 P w K mg base N name (ze st) f cdv A outer s H E).nox (zV st) t∧t { nx:=fun _ H'=>Q .non H',rt:=Q } (Zo N vs) H):FN P w K mg base (k+1) name ps sp:=by
 obtain ⟨f,fd,F,m⟩:=D
 exact ⟨f,fd,m,F.kp,F.binds hb,F.ok S len (hbody f)⟩
theorem FN.o {name:Str} {st:Stmt} {N ps:List Str} {sp:Sp} {k:Nat} (D:zt K mg name st) (S:zn N ps (ze st))
  (hbody:∀(f:Addr) (cdv:Value) (A:Around) (outer:List Env) (s:Shared) (H:Hp) (vs:List V) (Q:VK) (E:XK),Room k (A.deeper (envOfC name (ze st) s.heap.objs.size f cdv))→sp vs H Q E→
   ∃t,PSs (cxOf CX0 P w K mg base N name (ze st) f cdv A outer s H E).nox (zV st) t∧t { nx:=fun _ H'=>Q .non H',rt:=Q } (Zo N vs) H)
  (hb:∀(kV doc pm:Value) (an:Option Addr) (cdv ct:Value) (us:List Value),us.length=ps.length→bindArgs (PySem.W.fnOf name name (qH st) (zV st) (ze st) .none kV doc pm an cdv ct) ⟨us,[]⟩=pure (ps.zip us):=by (first | exact fun _ _ _ _ _ _=>zU1 fun _=>rfl | exact fun _ _ _ _ _ _=>zU2 fun _ _=>rfl | exact fun _ _ _ _ _ _=>zU3 fun _ _ _=>rfl | exact fun _ _ _ _ _ _=>zU4 fun _ _ _ _=>rfl | exact fun _ _ _ _ _ _=>zU5 fun _ _ _ _ _=>rfl))
  (len:∀vs H Q E,sp vs H Q E→vs.length=ps.length:=by (intro vs H Q E h;repeat (first | (obtain ⟨e,_⟩:=h;subst e;rfl) | (obtain ⟨_,h⟩:=h)))):FN P w K mg base (k+1) name ps sp:=FN.of D S hb len hbody
end
section
variable {X:Cx} {k:Nat} {name:Str} {ps:List Str} {sp:Sp} {p pos:Pos} {e:Expr} {es:List Expr} {t:TA}
theorem zp (F:FN X.prog X.w X.K X.mg X.base k name ps sp) (hr:Room k X.A) (hg:Gl X name) (ha:PA X (e :: es) t) (hdb:autoParam ((name == ("__debug__":Str))=false) aR._auto_2)
  (he:autoParam (starEach (e :: es) X.env=(false,eval e X.env) :: starEach es X.env) aR._auto_1) (hpl:autoParam ((backTo pos (starEach es X.env)).any (·.1)=false) aR._auto_1):
  PE X (.Call (.Name name p) (e :: es) [] pos) (z2w sp [] E0 t):=by
 obtain ⟨f,fd,a,b,c,d⟩:=F
 exact z3V d hr hg a b c .nil z76 ha hdb he hpl
end
inductive Scal:V→Prop where
 | non:Scal .non
 | bl (b:Bool):Scal (.bl b)
 | int (i:Int):Scal (.int i)
 | str (s:Str) (h:s.length≤sizeLine):Scal (.str s)
noncomputable def jb:V→Bool
 | .int _=>true
 | _=>false
noncomputable def isB:V→Bool
 | .bl _=>true
 | _=>false
noncomputable def isS:V→Bool
 | .str _=>true
 | _=>false
noncomputable def ql (x:V) (lo hi:Int):Bool:=match x with
 | .int i=>decide (lo≤i)&&decide (i≤hi)
 | _=>false
noncomputable def qO (x:V) (most:Int):Bool:=match x with
 | .str s=>decide ((1:Int)≤(s.length:Int))&&decide ((s.length:Int)≤most)&&Txt.isascii s&&Txt.isalpha s
 | _=>false
noncomputable def low:V→Bool
 | .str s=>Txt.islower s
 | _=>false
noncomputable def z2C (x:V):Bool:=qO x 4&&low x
noncomputable def JS (x:V):Bool:=qO x 8
noncomputable def z5A (x:V):Bool:=ql x 0 99
noncomputable def Qa (x:V) (most:Int):Bool:=decide (x=.non)||isB x||ql x (-most) most||JS x
noncomputable def zP (x:V):Bool:=Qa x 1000000000
noncomputable def JX (x:V):Bool:=ql x 1 9
noncomputable def Qs (x:V):Bool:=ql x 2 9
noncomputable def z5v (x:V):Bool:=decide (x=.non)
noncomputable def jG:List (Str × Str):=[("push","value"),("load","name"),("quick","name"),("store","name"),("clear","name"),("copy","copied"),("swap","swapped"),("jump","mark"),("iftrue","mark"),("iffalse","mark"),("ortrue","mark"),("orfalse","mark"),("try","mark"),("label","mark"),("add","none"),("sub","none"),("mul","none"),("div","none"),("rest","none"),("less","none"),("same","none"),("neg","none"),("not","none"),("drop","none"),("tell","none"),("return","none"),("raise","none"),("endtry","none")]
noncomputable def zR (op:Str):Option Str:=jG.lookup op
noncomputable def jc (sort:Str) (x:V):Bool:=
 if sort="value" then zP x else if sort="name" then z2C x else if sort="copied" then JX x else if sort="swapped" then Qs x else if sort="mark" then z5A x else z5v x
noncomputable def Q8 (op:Str) (x:V):Bool:=match zR op with
 | some s=>jc s x
 | none=>false
noncomputable def rowV (op:Str) (arg line:V):Bool:=(zR op).isSome&&Q8 op arg&&ql line 0 9999
structure Glo (mg:Str→Option Value):Prop where
 isinstance:mg "isinstance"=none
 int:mg "int"=none
 bool:mg "bool"=none
 str:mg "str"=none
 tuple:mg "tuple"=none
 list:mg "list"=none
 len:mg "len"=none
 range:mg "range"=none
 enumerate:mg "enumerate"=none
 rows:∃u,mg "MOST_ROWS"=some u∧RelV (.int 150) u
 line:∃u,mg "MOST_LINE"=some u∧RelV (.int 9999) u
 mark:∃u,mg "MOST_MARK"=some u∧RelV (.int 99) u
 pushed:∃u,mg "MOST_PUSHED"=some u∧RelV (.int 1000000000) u
 name:∃u,mg "LONGEST_NAME"=some u∧RelV (.int 4) u
 kind:∃u,mg "LONGEST_KIND"=some u∧RelV (.int 8) u
 all:mg "all"=none
 dict:mg "dict"=none
 max:mg "max"=none
 min:mg "min"=none
 abs:mg "abs"=none
 made:∃u,mg "MOST_MADE"=some u∧RelV (.int 1000000000000000000) u
theorem zE:bootBuiltins "isinstance"=some (.builtin "isinstance"):=by trivial
theorem z2o:bootBuiltins "int"=some (.type "int"):=by trivial
theorem jd:bootBuiltins "bool"=some (.type "bool"):=by trivial
theorem z2n:bootBuiltins "str"=some (.type "str"):=by trivial
theorem z3c:bootBuiltins "tuple"=some (.type "tuple"):=by trivial
theorem z0Z:bootBuiltins "list"=some (.type "list"):=by trivial
theorem zW:bootBuiltins "len"=some (.builtin "len"):=by trivial
theorem z29 {K:kn} {H:Hp} {x:V} (h:Scal x):∃t,TyOf K H x t∧PySem.W.kitOne K t (.type "int")=some (jb x||isB x):=by
 cases h with
 | non=>exact ⟨_,.non,rfl⟩
 | bl b=>exact ⟨_,.bl b,rfl⟩
 | int i=>exact ⟨_,.int i,rfl⟩
 | str s _=>exact ⟨_,.str s,rfl⟩
theorem jv {K:kn} {H:Hp} {x:V} (h:Scal x):∃t,TyOf K H x t∧PySem.W.kitOne K t (.type "bool")=some (isB x):=by
 cases h with
 | non=>exact ⟨_,.non,rfl⟩
 | bl b=>exact ⟨_,.bl b,rfl⟩
 | int i=>exact ⟨_,.int i,rfl⟩
 | str s _=>exact ⟨_,.str s,rfl⟩
theorem z27 {K:kn} {H:Hp} {x:V} (h:Scal x):∃t,TyOf K H x t∧PySem.W.kitOne K t (.type "str")=some (isS x):=by
 cases h with
 | non=>exact ⟨_,.non,rfl⟩
 | bl b=>exact ⟨_,.bl b,rfl⟩
 | int i=>exact ⟨_,.int i,rfl⟩
 | str s _=>exact ⟨_,.str s,rfl⟩
theorem z2N {K:kn} {H:Hp} {x:V} (h:Scal x):∃t,TyOf K H x t∧PySem.W.kitOne K t (.type "tuple")=some false:=by
 cases h with
 | non=>exact ⟨_,.non,rfl⟩
 | bl b=>exact ⟨_,.bl b,rfl⟩
 | int i=>exact ⟨_,.int i,rfl⟩
 | str s _=>exact ⟨_,.str s,rfl⟩
section
variable {X:Cx}
theorem Q0 (T:String) {x:Str} {pos:Pos} (hg:Gl X x) (hm:X.mg x=none) (hv:bootBuiltins x=some (.type T)) (hn:autoParam (x≠"__name__") aR._auto_2) (hd:autoParam ((x == ("__debug__":Str))=false) aR._auto_2):PE X (.Name x pos) (tC (.ty T)):=z75 hg hm hv rfl hn hd
theorem jS {x:Str} {v:V} {pos:Pos} (hg:Gl X x) (hm:∃u,X.mg x=some u∧RelV v u) (hd:autoParam ((x == ("__debug__":Str))=false) aR._auto_2):PE X (.Name x pos) (tC v):=by
 obtain ⟨u,h1,h2⟩:=hm
 exact Q1 hg h1 h2 hd
end
section
def sp1 (f:V→Bool):Sp:=fun vs H Q _=>∃x,vs=[x]∧Scal x∧Q (.bl (f x)) H
theorem z9d {f:V→Bool} (vs:List V) (H:Hp) (Q:VK) (E:XK) (h:sp1 f vs H Q E):vs.length=1:=by
 obtain ⟨x,rfl,_⟩:=h
 rfl
theorem sc12:zn ["thing"] ["thing"] (ze (top 12)):=fsM
theorem z0N (D:zt K mg "is_number" (top 12)) (G:Glo mg):FN P w K mg base 1 "is_number" ["thing"] (sp1 jb):=by
 refine FN.o D sc12 fun f cdv A outer s H vs Q E hr h=>?_
 obtain ⟨x,rfl,hx,q⟩:=h
 refine ⟨_,zd (zm (jh (zw qd rfl G.isinstance zE (z6 (pv 0) (z6 (Q0 "int" rfl G.int z2o) z7)))
  (j8 (z1Y (zw qd rfl G.isinstance zE (z6 (pv 0) (z6 (Q0 "bool" rfl G.bool jd) z7))))))),?_⟩
 obtain ⟨t1,ty1,k1⟩:=z29 (K:=K) (H:=H) hx
 obtain ⟨t2,ty2,k2⟩:=jv (K:=K) (H:=H) hx
 refine ⟨_,rfl,_,"int",t1,_,rfl,ty1,k1,_,rfl,?_⟩
 cases hx with
 | non=>exact q
 | bl b=>exact ⟨_,rfl,_,"bool",t2,_,rfl,ty2,k2,_,rfl,q⟩
 | int i=>exact ⟨_,rfl,_,"bool",t2,_,rfl,ty2,k2,_,rfl,q⟩
 | str s _=>exact q
def Zc:Sp:=fun vs H Q _=>∃x lo hi,vs=[x,.int lo,.int hi]∧Scal x∧Q (.bl (ql x lo hi)) H
theorem sc13:zn ["thing","low","high"] ["thing","low","high"] (ze (top 13)):=fsM
theorem z4s (D:zt K mg "is_number_within" (top 13)) (G:Glo mg) (F1:FN P w K mg base 1 "is_number" ["thing"] (sp1 jb)):FN P w K mg base 2 "is_number_within" ["thing","low","high"] Zc:=by
 refine FN.o D sc13 fun f cdv A outer s H vs Q E hr h=>?_
 obtain ⟨x,lo,hi,rfl,hx,q⟩:=h
 refine ⟨_,zd (zm (jh (zp F1 hr rfl (z6 (pv 0) z7)) (j8 (JJ z0q z0q (pv 1) (pv 0) (pv 2))))),?_⟩
 refine ⟨_,rfl,x,rfl,hx,_,rfl,?_⟩
 cases hx with
 | non=>exact q
 | bl b=>exact q
 | str s _=>exact q
 | int i=>
  refine ⟨_,rfl,_,rfl,_,_,rfl,rfl,_,rfl,?_⟩
  have q':Q (.bl (decide (lo≤i)&&decide (i≤hi))) H:=q
  refine ite2 (fun c=>?_) (fun c=>?_)
  ·rw [c,Bool.true_and] at q'
   exact ⟨_,rfl,_,_,rfl,rfl,q'⟩
  ·rw [Bool.eq_false_iff.mpr c,Bool.false_and] at q'
   exact q'
def QJ:Sp:=fun vs H Q _=>∃x most,vs=[x,.int most]∧Scal x∧Q (.bl (qO x most)) H
theorem sc14:zn ["thing","most"] ["thing","most"] (ze (top 14)):=fsM
theorem z2T (D:zt K mg "is_letters" (top 14)) (G:Glo mg):FN P w K mg base 1 "is_letters" ["thing","most"] QJ:=by
 refine FN.o D sc14 fun f cdv A outer s H vs Q E hr h=>?_
 obtain ⟨x,most,rfl,hx,q⟩:=h
 refine ⟨_,zd (zm (jh (zw qd rfl G.isinstance zE (z6 (pv 0) (z6 (Q0 "str" rfl G.str z2n) z7)))
  (jh (JJ z0q z0q zc (zw z0X rfl G.len zW (z6 (pv 0) z7)) (pv 1))
  (jh (z3W F.plainAttrs_str F.slot_str_isascii F.type_str_isascii z2E (pv 0))
  (j8 (z3W F.plainAttrs_str F.slot_str_isalpha F.type_str_isalpha z2F (pv 0))))))),?_⟩
 obtain ⟨t1,ty1,k1⟩:=z27 (K:=K) (H:=H) hx
 refine ⟨_,rfl,_,"str",t1,_,rfl,ty1,k1,_,rfl,?_⟩
 cases hx with
 | non=>exact q
 | bl b=>exact q
 | int i=>exact q
 | str z hz=>
  have q':Q (.bl (decide ((1:Int)≤(z.length:Int))&&decide ((z.length:Int)≤most)&&Txt.isascii z&&Txt.isalpha z)) H:=q
  refine ⟨_,rfl,z,rfl,hz,_,_,rfl,rfl,_,rfl,?_⟩
  refine ite2 (fun c=>?_) (fun c=>?_)
  ·rw [c,Bool.true_and] at q'
   refine ⟨_,rfl,_,_,rfl,rfl,_,rfl,?_⟩
   refine ite2 (fun c=>?_) (fun c=>?_)
   ·rw [c,Bool.true_and] at q'
    refine ⟨_,rfl,rfl,z,rfl,rfl,_,rfl,?_⟩
    refine ite2 (fun c=>?_) (fun c=>?_)
    ·rw [c,Bool.true_and] at q'
     exact ⟨_,rfl,rfl,z,rfl,rfl,q'⟩
    ·rw [Bool.eq_false_iff.mpr c,Bool.false_and] at q'
     exact q'
   ·rw [Bool.eq_false_iff.mpr c,Bool.false_and,Bool.false_and] at q'
    exact q'
  ·rw [Bool.eq_false_iff.mpr c,Bool.false_and,Bool.false_and,Bool.false_and] at q'
   exact ⟨_,rfl,q'⟩
theorem sc15:zn ["thing"] ["thing"] (ze (top 15)):=fsM
theorem z7v (D:zt K mg "is_name" (top 15)) (G:Glo mg) (F1:FN P w K mg base 1 "is_letters" ["thing","most"] QJ):FN P w K mg base 2 "is_name" ["thing"] (sp1 z2C):=by
 refine FN.o D sc15 fun f cdv A outer s H vs Q E hr h=>?_
 obtain ⟨x,rfl,hx,q⟩:=h
 refine ⟨_,zd (zm (jh (zp F1 hr rfl (z6 (pv 0) (z6 (jS rfl G.name) z7)))
  (j8 (z3W F.plainAttrs_str F.slot_str_islower F.type_str_islower z2D (pv 0))))),?_⟩
 refine ⟨_,rfl,x,4,rfl,hx,_,rfl,?_⟩
 have q':Q (.bl (qO x 4&&low x)) H:=q
 refine ite2 (fun c=>?_) (fun c=>?_)
 ·rw [c,Bool.true_and] at q'
  cases hx with
  | non=>cases c
  | bl b=>cases c
  | int i=>cases c
  | str z hz=>exact ⟨_,rfl,rfl,z,rfl,rfl,q'⟩
 ·rw [Bool.eq_false_iff.mpr c,Bool.false_and] at q'
  exact q'
theorem sc16:zn ["thing"] ["thing"] (ze (top 16)):=fsM
theorem z7y (D:zt K mg "is_kind" (top 16)) (G:Glo mg) (F1:FN P w K mg base 1 "is_letters" ["thing","most"] QJ):FN P w K mg base 2 "is_kind" ["thing"] (sp1 JS):=by
 refine FN.o D sc16 fun f cdv A outer s H vs Q E hr h=>?_
 obtain ⟨x,rfl,hx,q⟩:=h
 refine ⟨_,zd (zm (zp F1 hr rfl (z6 (pv 0) (z6 (jS rfl G.kind) z7)))),?_⟩
 exact ⟨_,rfl,x,8,rfl,hx,q⟩
theorem sc17:zn ["thing"] ["thing"] (ze (top 17)):=fsM
theorem z7w (D:zt K mg "is_mark" (top 17)) (G:Glo mg) (F1:FN P w K mg base 2 "is_number_within" ["thing","low","high"] Zc):FN P w K mg base 3 "is_mark" ["thing"] (sp1 z5A):=by
 refine FN.o D sc17 fun f cdv A outer s H vs Q E hr h=>?_
 obtain ⟨x,rfl,hx,q⟩:=h
 refine ⟨_,zd (zm (zp F1 hr rfl (z6 (pv 0) (z6 zc (z6 (jS rfl G.mark) z7))))),?_⟩
 exact ⟨_,rfl,x,0,99,rfl,hx,q⟩
def z3r:Sp:=fun vs H Q _=>∃x most,vs=[x,.int most]∧Scal x∧Q (.bl (Qa x most)) H
theorem sc18:zn ["thing","most"] ["thing","most"] (ze (top 18)):=fsM
theorem z5Q (D:zt K mg "is_value_within" (top 18)) (G:Glo mg) (F1:FN P w K mg base 2 "is_number_within" ["thing","low","high"] Zc) (F2:FN P w K mg base 2 "is_kind" ["thing"] (sp1 JS)):FN P w K mg base 3 "is_value_within" ["thing","most"] z3r:=by
 refine FN.o D sc18 fun f cdv A outer s H vs Q E hr h=>?_
 obtain ⟨x,most,rfl,hx,q⟩:=h
 refine ⟨_,z8 (zH (PW.pt (Zq (zk QV (pv 0) qc (zo _)) (jr (qz (zw qd rfl G.isinstance zE (z6 (pv 0) (z6 (Q0 "bool" rfl G.bool jd) z7))))))) (zd (zm Z2)) zu)
  (zd (zm (z3T (zp F1 hr rfl (z6 (pv 0) (z6 (JH Zw (pv 1)) (z6 (pv 1) z7)))) (j8 (zp F2 hr rfl (z6 (pv 0) z7)))))),?_⟩
 refine ⟨_,rfl,rfl,_,rfl,?_⟩
 have q':Q (.bl (decide (x=.non)||isB x||ql x (-most) most||JS x)) H:=q
 refine ite2 (fun c=>?_) (fun c=>?_)
 ·rw [c,Bool.true_or,Bool.true_or,Bool.true_or] at q'
  exact iteT q'
 ·rw [Bool.eq_false_iff.mpr c,Bool.false_or] at q'
  obtain ⟨t2,ty2,k2⟩:=jv (K:=K) (H:=H) hx
  refine ⟨_,rfl,_,"bool",t2,_,rfl,ty2,k2,_,rfl,?_⟩
  refine ite2 (fun c=>?_) (fun c=>?_)
  ·rw [c,Bool.true_or,Bool.true_or] at q'
   exact q'
  ·rw [Bool.eq_false_iff.mpr c,Bool.false_or] at q'
   refine ⟨_,rfl,_,rfl,most,rfl,_,rfl,x,-most,most,rfl,hx,_,rfl,?_⟩
   refine ite2 (fun c=>?_) (fun c=>?_)
   ·rw [c,Bool.true_or] at q'
    exact q'
   ·rw [Bool.eq_false_iff.mpr c,Bool.false_or] at q'
    exact ⟨_,rfl,x,rfl,hx,q'⟩
theorem sc19:zn ["thing"] ["thing"] (ze (top 19)):=fsM
theorem z4v (D:zt K mg "is_pushed" (top 19)) (G:Glo mg) (F1:FN P w K mg base 3 "is_value_within" ["thing","most"] z3r):FN P w K mg base 4 "is_pushed" ["thing"] (sp1 zP):=by
 refine FN.o D sc19 fun f cdv A outer s H vs Q E hr h=>?_
 obtain ⟨x,rfl,hx,q⟩:=h
 refine ⟨_,zd (zm (zp F1 hr rfl (z6 (pv 0) (z6 (jS rfl G.pushed) z7)))),?_⟩
 exact ⟨_,rfl,x,1000000000,rfl,hx,q⟩
theorem sc20:zn ["thing"] ["thing"] (ze (top 20)):=fsM
theorem z4w (D:zt K mg "is_copied" (top 20)) (F1:FN P w K mg base 2 "is_number_within" ["thing","low","high"] Zc):FN P w K mg base 3 "is_copied" ["thing"] (sp1 JX):=by
 refine FN.o D sc20 fun f cdv A outer s H vs Q E hr h=>?_
 obtain ⟨x,rfl,hx,q⟩:=h
 refine ⟨_,zd (zm (zp F1 hr rfl (z6 (pv 0) (z6 zc (z6 zc z7))))),?_⟩
 exact ⟨_,rfl,x,1,9,rfl,hx,q⟩
theorem sc21:zn ["thing"] ["thing"] (ze (top 21)):=fsM
theorem z2S (D:zt K mg "is_swapped_with" (top 21)) (F1:FN P w K mg base 2 "is_number_within" ["thing","low","high"] Zc):FN P w K mg base 3 "is_swapped_with" ["thing"] (sp1 Qs):=by
 refine FN.o D sc21 fun f cdv A outer s H vs Q E hr h=>?_
 obtain ⟨x,rfl,hx,q⟩:=h
 refine ⟨_,zd (zm (zp F1 hr rfl (z6 (pv 0) (z6 zc (z6 zc z7))))),?_⟩
 exact ⟨_,rfl,x,2,9,rfl,hx,q⟩
theorem sc22:zn ["thing"] ["thing"] (ze (top 22)):=fsM
theorem z7t (D:zt K mg "is_none" (top 22)):FN P w K mg base 1 "is_none" ["thing"] (sp1 z5v):=by
 refine FN.o D sc22 fun f cdv A outer s H vs Q E hr h=>?_
 obtain ⟨x,rfl,hx,q⟩:=h
 refine ⟨_,zd (zm (zU QV (pv 0) qc (zo _))),?_⟩
 exact ⟨_,rfl,rfl,q⟩
theorem Zf {α β:Type} (f:α→β) (x:Str):∀l:List (Str × α),(l.map fun p=>(p.1,f p.2)).lookup x=(l.lookup x).map f
 | []=>rfl
 | (k,v) :: r=>by
  rw [kN,List.lookup_cons,List.lookup_cons]
  cases x == k with
  | true=>rfl
  | false=>exact Zf f x r
noncomputable def z3C:List (Str × V):=jG.map fun p=>(p.1,V.str p.2)
theorem QK (x:Str):z3C.lookup x=(zR x).map V.str:=Zf _ _ _
structure Tabs (w:World) (K:kn) (mg:Str→Option Value):Prop where
 sorts:∃d,mg "ARG_SORTS"=some (.ref d)∧KTab w.params K d z3C
 tests:∃d f1 f2 f3 f4 f5 f6,mg "ARG_TESTS"=some (.ref d)∧KTab w.params K d [("value",.ref f1),("name",.ref f2),("copied",.ref f3),("swapped",.ref f4),("mark",.ref f5),("none",.ref f6)]∧
  mg "is_pushed"=some (.ref f1)∧mg "is_name"=some (.ref f2)∧mg "is_copied"=some (.ref f3)∧mg "is_swapped_with"=some (.ref f4)∧mg "is_mark"=some (.ref f5)∧mg "is_none"=some (.ref f6)
noncomputable def isOp:V→Bool
 | .str s=>(zR s).isSome
 | _=>false
theorem sc24:zn ["thing"] ["thing"] (ze (top 24)):=fsM
theorem z9E (D:zt K mg "is_op" (top 24)) (G:Glo mg) (T:Tabs w K mg):FN P w K mg base 1 "is_op" ["thing"] (sp1 isOp):=by
 refine FN.o D sc24 fun f cdv A outer s H vs Q E hr h=>?_
 obtain ⟨x,rfl,hx,q⟩:=h
 obtain ⟨d,md,td⟩:=T.sorts
 refine ⟨_,zd (zm (jh (zw qd rfl G.isinstance zE (z6 (pv 0) (z6 (Q0 "str" rfl G.str z2n) z7))) (j8 (z6x (z8p td rfl md (pv 0)))))),?_⟩
 obtain ⟨t1,ty1,k1⟩:=z27 (K:=K) (H:=H) hx
 refine ⟨_,rfl,_,"str",t1,_,rfl,ty1,k1,_,rfl,?_⟩
 cases hx with
 | non=>exact q
 | bl b=>exact q
 | int i=>exact q
 | str z hz=>
  refine ⟨_,rfl,z,rfl,?_⟩
  have q':Q (.bl (zR z).isSome) H:=q
  rw [QK,Option.isSome_map]
  exact q'
def z3s:Sp:=fun vs H Q _=>∃op s,vs=[.str op]∧zR op=some s∧Q (.str s) H
theorem sc25:zn ["op"] ["op"] (ze (top 25)):=fsM
theorem z7l (D:zt K mg "arg_sort" (top 25)) (T:Tabs w K mg):FN P w K mg base 1 "arg_sort" ["op"] z3s:=by
 refine FN.o D sc25 fun f cdv A outer s H vs Q E hr h=>?_
 obtain ⟨op,so,rfl,hs,q⟩:=h
 obtain ⟨d,md,td⟩:=T.sorts
 refine ⟨_,zd (zm (QT td rfl md (pv 0) (fun _ _=>rfl))),?_⟩
 exact ⟨_,rfl,op,.str so,rfl,by rw [QK,hs];rfl,q⟩
def z6u:Sp:=fun vs H Q _=>∃op s x,vs=[.str op,x]∧zR op=some s∧Scal x∧Q (.bl (jc s x)) H
theorem sc26:zn ["op","arg","fits"] ["op","arg"] (ze (top 26)):=fsM
theorem z6W {op s:Str} (h:zR op=some s):s="value"∨s="name"∨s="copied"∨s="swapped"∨s="mark"∨s="none":=by
 have hm:(op,s)∈jG:=PySem.mem_of_lookup h
 have all:∀p∈jG,p.2="value"∨p.2="name"∨p.2="copied"∨p.2="swapped"∨p.2="mark"∨p.2="none":=by trivial
 exact all _ hm
theorem z7B (D:zt K mg "arg_fits" (top 26)) (T:Tabs w K mg) (F1:FN P w K mg base 1 "arg_sort" ["op"] z3s) (A1:FN P w K mg base 4 "is_pushed" ["thing"] (sp1 zP)) (A2:FN P w K mg base 2 "is_name" ["thing"] (sp1 z2C))
  (A3:FN P w K mg base 3 "is_copied" ["thing"] (sp1 JX)) (A4:FN P w K mg base 3 "is_swapped_with" ["thing"] (sp1 Qs)) (A5:FN P w K mg base 3 "is_mark" ["thing"] (sp1 z5A)) (A6:FN P w K mg base 1 "is_none" ["thing"] (sp1 z5v)):
  FN P w K mg base 5 "arg_fits" ["op","arg"] z6u:=by
 refine FN.o D sc26 fun f cdv A outer s H vs Q E hr h=>?_
 obtain ⟨op,so,x,rfl,hs,hx,q⟩:=h
 obtain ⟨d,f1,f2,f3,f4,f5,f6,md,td,m1,m2,m3,m4,m5,m6⟩:=T.tests
 have hr1:=hr.mono (show 1≤4 by decide)
 refine ⟨_,z8 (zI (i:=2) sc26.nd rfl (Or.inl rfl) (QT td rfl md (zp F1 hr1 rfl (z6 (pv 0) z7)) (fun _ _=>rfl))) (zd (zm (JK (pv 2) (z6 (pv 1) z7)))),?_⟩
 refine ⟨_,rfl,op,so,rfl,hs,so,?_⟩
 rcases z6W hs with e | e | e | e | e | e
 ·subst e
  obtain ⟨g,gd,mg1,kp,bd,ok⟩:=A1
  cases (kr (m1.symm.trans mg1))
  exact ⟨.ref f1,rfl,by rfl,f1,gd,_,_,4,rfl,kp,ok,hr,bd,_,rfl,x,rfl,hx,q⟩
 ·subst e
  obtain ⟨g,gd,mg1,kp,bd,ok⟩:=A2
  cases (kr (m2.symm.trans mg1))
  exact ⟨.ref f2,rfl,by rfl,f2,gd,_,_,2,rfl,kp,ok,hr.mono (by decide),bd,_,rfl,x,rfl,hx,q⟩
 ·subst e
  obtain ⟨g,gd,mg1,kp,bd,ok⟩:=A3
  cases (kr (m3.symm.trans mg1))
  exact ⟨.ref f3,rfl,by rfl,f3,gd,_,_,3,rfl,kp,ok,hr.mono (by decide),bd,_,rfl,x,rfl,hx,q⟩
 ·subst e
  obtain ⟨g,gd,mg1,kp,bd,ok⟩:=A4
  cases (kr (m4.symm.trans mg1))
  exact ⟨.ref f4,rfl,by rfl,f4,gd,_,_,3,rfl,kp,ok,hr.mono (by decide),bd,_,rfl,x,rfl,hx,q⟩
 ·subst e
  obtain ⟨g,gd,mg1,kp,bd,ok⟩:=A5
  cases (kr (m5.symm.trans mg1))
  exact ⟨.ref f5,rfl,by rfl,f5,gd,_,_,3,rfl,kp,ok,hr.mono (by decide),bd,_,rfl,x,rfl,hx,q⟩
 ·subst e
  obtain ⟨g,gd,mg1,kp,bd,ok⟩:=A6
  cases (kr (m6.symm.trans mg1))
  exact ⟨.ref f6,rfl,by rfl,f6,gd,_,_,1,rfl,kp,ok,hr.mono (by decide),bd,_,rfl,x,rfl,hx,q⟩
def z6U:Sp:=fun vs H Q _=>(vs=[.non]∧Q (.bl false) H)∨∃a op arg line,vs=[.ref a]∧H a=some (.tup [.str op,arg,line])∧op.length≤sizeLine∧Scal arg∧Scal line∧Q (.bl (rowV op arg line)) H
theorem sc27:zn ["thing","op","arg","line"] ["thing"] (ze (top 27)):=fsM
theorem z8L (D:zt K mg "is_row" (top 27)) (G:Glo mg) (F1:FN P w K mg base 1 "is_op" ["thing"] (sp1 isOp)) (F2:FN P w K mg base 5 "arg_fits" ["op","arg"] z6u) (F3:FN P w K mg base 2 "is_number_within" ["thing","low","high"] Zc):
  FN P w K mg base 6 "is_row" ["thing"] z6U:=by
 refine FN.of D sc27 (fun _ _ _ _ _ _=>zU1 fun _=>rfl) (fun vs H Q E h=>by rcases h with ⟨rfl,_⟩ | ⟨a,op,arg,line,rfl,_⟩ <;> rfl) (fun f cdv A outer s H vs Q E hr h=>?_)
 refine ⟨_,z8 (zH (PW.pt (Zq (jt (qz (zw qd rfl G.isinstance zE (z6 (pv 0) (z6 (Q0 "tuple" rfl G.tuple z3c) z7)))))
   (jr (zk z0p (zw zy rfl G.len zW (z6 (pv 0) z7)) zc (zo _))))) (zd (zm Z2)) zu)
  (z8 (jW (pv 0) (jX rfl (zD (zB (i:=1) sc27.nd rfl (Or.inl rfl)) (zD (zB (i:=2) sc27.nd rfl (Or.inl rfl)) (zD (zB (i:=3) sc27.nd rfl (Or.inl rfl)) qY)))))
  (zd (zm (jh (zp F1 (hr.mono (by decide)) rfl (z6 (pv 1) z7)) (jh (zp F2 hr rfl (z6 (pv 1) (z6 (pv 2) z7))) (j8 (zp F3 (hr.mono (by decide)) rfl (z6 (pv 3) (z6 zc (z6 (jS rfl G.line) z7)))))))))),?_⟩
 rcases h with ⟨rfl,q⟩ | ⟨a,op,arg,line,rfl,ha,hop,harg,hline,q⟩
 ·obtain ⟨t1,ty1,k1⟩:=z2N (K:=K) (H:=H) .non
  exact ⟨_,rfl,_,"tuple",t1,_,rfl,ty1,k1,_,rfl,iteT (iteT q)⟩
 ·refine ⟨_,rfl,_,"tuple",_,true,rfl,.tup ha,rfl,_,rfl,iteF ?_⟩
  refine ⟨_,rfl,a,_,rfl,.inr (SqT.of ha),rfl,_,rfl,iteF ?_⟩
  refine ⟨_,rfl,a,_,rfl,SqT.of ha,rfl,_,_,rfl,_,_,rfl,_,_,rfl,rfl,?_⟩
  refine ⟨_,rfl,_,rfl,.str op hop,_,rfl,?_⟩
  have q':Q (.bl ((zR op).isSome&&Q8 op arg&&ql line 0 9999)) H:=q
  cases hs:zR op with
  | none=>
   have e:isOp (.str op)=false:=by show (zR op).isSome=false;rw [hs];rfl
   rw [e]
   rw [hs] at q'
   exact iteF q'
  | some so=>
   have e:isOp (.str op)=true:=by show (zR op).isSome=true;rw [hs];rfl
   have ea:Q8 op arg=jc so arg:=by unfold Q8;rw [hs]
   rw [e]
   rw [hs,ea] at q'
   refine iteT ⟨_,rfl,_,rfl,op,so,arg,rfl,hs,harg,_,rfl,?_⟩
   refine ite2 (fun c=>?_) (fun c=>?_)
   ·rw [c] at q'
    exact ⟨_,rfl,line,0,9999,rfl,hline,q'⟩
   ·rw [Bool.eq_false_iff.mpr c] at q'
    exact q'
end
structure Row where
 op:Str
 arg:V
 line:Int
noncomputable def tupV (r:Row):List V:=[.str r.op,r.arg,.int r.line]
abbrev zv (H:Hp):List Addr→List Row→Prop:=Paired fun a r=>H a=some (.tup (tupV r))
def Qo (r:Row):Prop:=rowV r.op r.arg (.int r.line)=true
theorem z1V {α β:Type} {F:α→β→Prop} {xs ys:List α} {us vs:List β} (h:Paired F xs us) (k:Paired F ys vs):Paired F (xs++ys) (us++vs):=by
 induction h with
 | nil=>exact k
 | cons r _ ih=>exact .cons r ih
theorem z3N {β:Type} {F:Addr→β→Prop} {as:List Addr} {rs:List β} (h:Paired F as rs):∀{i:Nat} {x:V},(as.map V.ref)[i]?=some x→∃a r,x=.ref a∧rs[i]?=some r∧F a r:=by
 induction h with
 | nil=>intro i x e;simp at e
 | cons r t ih=>
  intro i x e
  cases i with
  | zero=>simp at e;subst e;exact ⟨_,_,rfl,rfl,r⟩
  | succ i=>
   obtain ⟨a,r,h1,h2,h3⟩:=ih (i:=i) (x:=x) (by simpa using e)
   exact ⟨a,r,h1,by simpa using h2,h3⟩
theorem z8m {α β:Type} {F:α→β→Prop} {as:List α} {rs:List β} (h:Paired F as rs):∀{i:Nat} {r:β},rs[i]?=some r→∃a,as[i]?=some a∧F a r:=by
 induction h with
 | nil=>intro i x e;simp at e
 | cons r t ih=>
  intro i x e
  cases i with
  | zero=>simp at e;subst e;exact ⟨_,rfl,r⟩
  | succ i=>
   obtain ⟨a,h2,h3⟩:=ih (i:=i) (by simpa using e)
   exact ⟨a,by simpa using h2,h3⟩
theorem zv.keep {H H':Hp} {as:List Addr} {rs:List Row} (h:zv H as rs) (k:∀a xs,H a=some (.tup xs)→H' a=some (.tup xs)):zv H' as rs:=Paired.mapP h fun _ _ e=>k _ _ e
theorem zv.same {H H':Hp} {as:List Addr} {rs:List Row} (h:zv H as rs) (s:Same H H'):zv H' as rs:=h.keep fun _ _ e=>s _ _ e
theorem zv.get {H:Hp} {as:List Addr} {rs:List Row} {i:Nat} {x:V} (h:zv H as rs) (e:(as.map V.ref)[i]?=some x):∃a r,x=.ref a∧rs[i]?=some r∧H a=some (.tup (tupV r)):=z3N h e
theorem zv.append {H:Hp} {as bs:List Addr} {rs ts:List Row} (h:zv H as rs) (k:zv H bs ts):zv H (as++bs) (rs++ts):=z1V h k
theorem zv.len {H:Hp} {as:List Addr} {rs:List Row} (h:zv H as rs):as.length=rs.length:=Paired.length h
theorem zg {H:Hp} {p:Addr} (h:H p=none) (o:HO):Same H (upd H p o):=fun b u q=>by rw [zl (zh q h)];exact q
theorem Same.upd {H H2:Hp} {p:Addr} (s:Same H H2) (h:H p=none) (o:HO):Same H (upd H2 p o):=fun b u q=>by rw [zl (zh q h)];exact s b u q
theorem z5p {op s:Str} (h:zR op=some s):op.length≤7:=by
 have hm:(op,s)∈jG:=PySem.mem_of_lookup h
 have all:∀p∈jG,p.1.length≤7:=by trivial
 exact all _ hm
theorem z1S {n:Nat} (h:n≤1000):n≤sizeLine:=Nat.le_of_lt (qh h)
theorem Qg {x:V} {m:Int} (h:qO x m=true) (hm:m≤100):Scal x:=by
 cases x with
 | str s=>
  have h:(decide ((1:Int)≤(s.length:Int))&&decide ((s.length:Int)≤m)&&Txt.isascii s&&Txt.isalpha s)=true:=h
  simp only [kX,kY] at h
  exact .str s (z1S (by lia))
 | _=>cases h
theorem qy {x:V} {lo hi:Int} (h:ql x lo hi=true):∃i,x=.int i∧lo≤i∧i≤hi:=by
 cases x with
 | int i=>
  have h:(decide (lo≤i)&&decide (i≤hi))=true:=h
  simp only [kX,kY] at h
  exact ⟨i,rfl,h.1,h.2⟩
 | _=>cases h
theorem z4y {s:Str} {x:V} (h:jc s x=true):Scal x:=by
 unfold jc at h
 split at h
 ·unfold zP Qa at h
  simp only [Bool.or_eq_true,kY] at h
  rcases h with ((h | h) | h) | h
  ·subst h;exact .non
  ·cases x with
   | bl b=>exact .bl b
   | _=>cases h
  ·obtain ⟨i,rfl,_⟩:=qy h;exact .int i
  ·exact Qg h (by decide)
 ·split at h
  ·unfold z2C at h
   simp only [kX] at h
   exact Qg h.1 (by decide)
  ·split at h
   ·obtain ⟨i,rfl,_⟩:=qy h;exact .int i
   ·split at h
    ·obtain ⟨i,rfl,_⟩:=qy h;exact .int i
    ·split at h
     ·obtain ⟨i,rfl,_⟩:=qy h;exact .int i
     ·unfold z5v at h
      simp only [kY] at h
      subst h;exact .non
theorem Qo.parts {r:Row} (h:Qo r):∃s,zR r.op=some s∧jc s r.arg=true∧0≤r.line∧r.line≤9999∧r.op.length≤sizeLine∧Scal r.arg:=by
 unfold Qo rowV at h
 simp only [kX] at h
 obtain ⟨⟨h1,h2⟩,h3⟩:=h
 obtain ⟨s,hs⟩:=Option.isSome_iff_exists.mp h1
 have h2':jc s r.arg=true:=by unfold Q8 at h2;rw [hs] at h2;exact h2
 obtain ⟨i,e,l1,l2⟩:=qy h3
 cases e
 exact ⟨s,hs,h2',l1,l2,z1S (km (z5p hs) (by decide)),z4y h2'⟩
theorem ZH {x:V} (h:jc "mark" x=true):∃m:Int,x=.int m∧0≤m∧m≤99:=by
 have e:jc "mark" x=z5A x:=by
  unfold jc
  rw [ko (by trivial),ko (by trivial),ko (by trivial),ko (by trivial),kq rfl]
 rw [e] at h
 exact qy h
noncomputable def labP (m:Int) (r:Row):Bool:=decide (r.op="label")&&decide (r.arg=.int m)
noncomputable def zZ (rs:List Row) (m:Int):Option Nat:=rs.findIdx? (labP m)
noncomputable def jY (rs:List Row) (i:Nat) (r:Row):Bool:=
 if r.op="label" then (match r.arg with | .int m=>decide (zZ rs m=some i) | _=>false)
 else if zR r.op=some ("mark":Str) then (match r.arg with | .int m=>(zZ rs m).isSome | _=>false) else true
def Jc (kvs:List (Key × V)) (rs:List Row):Prop:=∀m:Int,valV kvs (Sum.inl m:Key)=Option.map (fun i:Nat=>V.int (i:Int)) (zZ rs m)
section
def z3w (K:kn):Sp:=fun vs H Q _=>∃l as rs,vs=[.ref l]∧SqL K H l (as.map V.ref)∧zv H as rs∧(∀r∈rs,Qo r)∧rs.length≤1000∧
 ∀d kvs H',H d=none→Same H H'→H' d=some (.dK kvs)→Jc kvs rs→Q (.ref d) H'
theorem sc28:zn ["rows","places","place","row"] ["rows"] (ze (top 28)):=fsM
theorem jL {α:Type} {l:List α} {i:Nat} {x:α} (h:l[i]?=some x):l.take (i+1)=l.take i++[x]:=by
 rw [List.take_add_one,h]
 rfl
theorem JR {rs:List Row} {i:Nat} {r:Row} (h:rs[i]?=some r) (m:Int):zZ (rs.take (i+1)) m=(zZ (rs.take i) m).or (if labP m r=true then some i else none):=by
 have hl:(rs.take i).length=i:=by
  rw [List.length_take]
  have:=(kd.mp h).1
  lia
 unfold zZ
 rw [jL h,List.findIdx?_append,hl]
 congr 1
 rw [List.findIdx?_cons]
 by_cases c:labP m r=true
 ·rw [kq c,kq c];simp
 ·rw [ko c,ko c];simp
theorem z7x (D:zt K mg "label_places" (top 28)) (G:Glo mg) (FR:FN P w K mg base 6 "is_row" ["thing"] z6U):FN P w K mg base 7 "label_places" ["rows"] (z3w K):=by
 refine FN.o D sc28 fun f cdv A outer s H vs Q E hr h=>?_
 obtain ⟨l,as,rs,rfl,hS,hR,hok,hlen,q⟩:=h
 refine ⟨_,z8 (zI (i:=1) sc28.nd rfl (Or.inl rfl) z5l)
  (z8 (Z1 PassesOwn.never rfl (z3R rfl G.enumerate (z6 (pv 0) z7)) (jX rfl (zD (zB (i:=2) sc28.nd rfl (Or.inl rfl)) (zD (zB (i:=3) sc28.nd rfl (Or.inl rfl)) qY)))
   (zd (zH (PW.pt (js (qz (zp FR hr rfl (z6 (pv 3) z7))) (qX (zk qe (zx zS (pv 3) zc (fun _ _=>rfl)) zf (zo _)))))
    (zd (zj (z3S (pv 1) (zx zS (pv 3) zc (fun _ _=>rfl)) (pv 2) ⟨rfl,rfl,rfl,rfl⟩))) zu)))
  (zd (zm (pv 1)))),?_⟩
 intro d hd
 have hll:as.length=rs.length:=hR.len
 have hml:(as.map V.ref).length=rs.length:=by rw [kg];exact hll
 refine ⟨_,rfl,l,rfl,⟨_,(zg hd _).seq hS⟩,z2d (K:=K) (a:=l) (xs:=as.map V.ref) (fun i σ H2=>∃kvs v2 v3,σ=[some (.ref l),some (.ref d),v2,v3]∧Same H H2∧H2 d=some (.dK kvs)∧kvs.length≤i∧Jc kvs (rs.take i))
  ⟨[],none,none,rfl,zg hd _,zb,kc _,fun m=>by rw [List.take_zero];rfl⟩ (fun i σ H2 _ ⟨_,_,_,_,s2,_⟩=>s2.seq hS) ?_ ?_⟩
 ·rintro i x σ H2 p hi ⟨kvs,v2,v3,rfl,s2,hD,hk,hL⟩ hp
  obtain ⟨a,r,rfl,hr1,ha⟩:=(hR.same s2).get hi
  have hil:i < rs.length:=(kd.mp hr1).1
  have npd:d≠p:=zh hD hp
  have nap:a≠p:=zh ha hp
  have ha':(upd H2 p (.tup [.int i,.ref a])) a=some (.tup (tupV r)):=by rw [zl nap];exact ha
  have s3:Same H (upd H2 p (.tup [.int i,.ref a])):=fun b o e=>by rw [zl (zh (s2 b o e) hp)];exact s2 b o e
  obtain ⟨so,hs,hfit,hl0,hl1,hop,hsc⟩:=(hok r (kz hr1)).parts
  have hrow:rowV r.op r.arg (.int r.line)=true:=hok r (kz hr1)
  refine ⟨p,_,rfl,SqT.of zb,rfl,_,_,rfl,_,_,rfl,rfl,?_⟩
  refine ⟨_,rfl,.inr ⟨a,r.op,r.arg,.int r.line,rfl,ha',hop,hsc,.int _,_,rfl,?_⟩⟩
  rw [hrow]
  refine iteT ⟨_,rfl,a,_,_,_,rfl,rfl,SqT.of ha',zi (j:=0) rfl,rfl,_,rfl,?_⟩
  have hD':(upd H2 p (.tup [.int i,.ref a])) d=some (.dK kvs):=by rw [zl npd];exact hD
  refine ite2 (fun c=>?_) (fun c=>?_)
  ·have eop:r.op="label":=by
    have:=ku c
    injection this
   have esort:so="mark":=by
    rw [eop] at hs
    have:zR "label"=some "mark":=by trivial
    rw [this] at hs
    exact (kr hs).symm
   rw [esort] at hfit
   obtain ⟨m,em,_,_⟩:=ZH hfit
   refine ⟨_,rfl,d,rfl,.inl ⟨kvs,.inl hD'⟩,_,rfl,a,_,_,_,rfl,rfl,SqT.of ha',zi (j:=1) rfl,_,rfl,kvs,Sum.inl m,hD',em,qh (by lia),?_⟩
   have eP:labP m r=true:=by unfold labP;rw [eop,em];simp
   cases hv:valV kvs (Sum.inl m:Key) with
   | some v=>
    refine ⟨kvs,_,_,rfl,s3,hD',by lia,fun m'=>?_⟩
    rw [JR hr1 m',hL m']
    by_cases e:m'=m
    ·subst e
     have:=hL m'
     rw [hv] at this
     cases h1:zZ (rs.take i) m' with
     | none=>rw [h1] at this;cases this
     | some j=>rfl
    ·have:labP m' r=false:=by
      unfold labP
      rw [em]
      have:¬(V.int m=V.int m'):=fun z=>e (by injection z with z;exact z.symm)
      simp [this]
     rw [this]
     simp
   | none=>
    refine ⟨putK kvs (Sum.inl m) (.int i),_,_,rfl,fun b o e=>?_,zb,?_,fun m'=>?_⟩
    ·rw [zl (zh e hd)]
     exact s3 b o e
    ·have:=j4 kvs (Sum.inl m:Key) (V.int i)
     lia
    ·rw [Jy,JR hr1 m']
     by_cases e:m'=m
     ·subst e
      have:=hL m'
      rw [hv] at this
      rw [kq rfl,eP,kq rfl]
      cases h1:zZ (rs.take i) m' with
      | none=>rfl
      | some j=>rw [h1] at this;cases this
     ·have:labP m' r=false:=by
       unfold labP
       rw [em]
       have:¬(V.int m=V.int m'):=fun z=>e (by injection z with z;exact z.symm)
       simp [this]
      rw [this,ko (fun z=>e (by injection z)),hL m']
      simp
  ·refine ⟨kvs,_,_,rfl,s3,hD',by lia,fun m'=>?_⟩
   rw [JR hr1 m',hL m']
   have:labP m' r=false:=by
    unfold labP
    have:¬(r.op="label"):=fun z=>c (by rw [z];rfl)
    simp [this]
   rw [this]
   simp
 ·rintro σ H2 ⟨kvs,v2,v3,rfl,s2,hD,hk,hL⟩
  refine ⟨_,rfl,q d kvs H2 hd s2 hD ?_⟩
  rw [hml,List.take_length] at hL
  exact hL
end
section
def z6s:Sp:=fun vs H Q _=>∃a i d r kvs rs,vs=[.ref a,.int (i:Nat),.ref d]∧H a=some (.tup (tupV r))∧Qo r∧H d=some (.dK kvs)∧Jc kvs rs∧(∀m:Int,r.op="label"→r.arg=.int m→(zZ rs m).isSome=true)∧Q (.bl (jY rs i r)) H
theorem sc29:zn ["row","place","labels","op","mark"] ["row","place","labels"] (ze (top 29)):=fsM
theorem Zg:zR "label"=some "mark":=by trivial
theorem z0M (D:zt K mg "mark_fits" (top 29)) (FS:FN P w K mg base 1 "arg_sort" ["op"] z3s):FN P w K mg base 2 "mark_fits" ["row","place","labels"] z6s:=by
 refine FN.o D sc29 fun f cdv A outer s H vs Q E hr h=>?_
 obtain ⟨a,i,d,r,kvs,rs,rfl,ha,hok,hd,hL,hlab,q⟩:=h
 have hu:=z5F hr
 obtain ⟨so,hs,hfit,hl0,hl1,hop,hsc⟩:=hok.parts
 refine ⟨_,z8 (Qc (i:=3) (j:=4) rfl sc29.nd rfl rfl (by decide) rfl rfl (z6 (zx zS (pv 0) zc (fun _ _=>rfl)) (z6 (zx zS (pv 0) zc (fun _ _=>rfl)) z7)) rfl)
  (z8 (zH (zk qe (pv 3) zf (zo _)) (zd (zm (zU qe (z1q hu (pv 2) (pv 4) (fun _ _=>rfl)) (pv 1) (zo _)))) zu)
  (zd (zm (z3T (zU z0p (zp FS hr rfl (z6 (pv 3) z7)) zf (zo _)) (j8 (z6x (z8q hu (pv 4) (pv 2)))))))),?_⟩
 refine ⟨_,rfl,a,_,_,_,rfl,rfl,SqT.of ha,zi (j:=0) rfl,_,rfl,a,_,_,_,rfl,rfl,SqT.of ha,zi (j:=1) rfl,_,_,rfl,?_⟩
 refine ⟨_,rfl,rfl,_,rfl,?_⟩
 refine ite2 (fun c=>?_) (fun c=>?_)
 ·have eop:r.op="label":=by
   have:=ku c
   injection this
  have esort:so="mark":=by
   rw [eop,Zg] at hs
   exact (kr hs).symm
  rw [esort] at hfit
  obtain ⟨m,em,_,_⟩:=ZH hfit
  obtain ⟨j,hj⟩:=Option.isSome_iff_exists.mp (hlab m eop em)
  have hv:valV kvs (Sum.inl m:Key)=some (.int (j:Int)):=by rw [hL m,hj];rfl
  have hg:DGet H d r.arg (some (.int (j:Int))):=by rw [em,←hv];exact DGet.k (k:=Sum.inl m) hd
  refine ⟨_,rfl,_,rfl,d,_,rfl,hg,_,rfl,rfl,?_⟩
  have e:jY rs i r=decide (V.int (j:Int)=V.int (i:Int)):=by
   unfold jY
   rw [kq eop,em]
   show decide (zZ rs m=some i)=_
   rw [hj]
   by_cases z:j=i
   ·subst z;simp
   ·rw [ke (fun y=>z (by injection y)),ke (fun y=>z (by injection y with y;lia))]
  rw [e] at q
  exact q
 ·have eop:¬r.op="label":=fun z=>c (by rw [z];rfl)
  refine ⟨_,rfl,r.op,so,rfl,hs,rfl,_,rfl,?_⟩
  unfold jY at q
  rw [ko eop,hs] at q
  by_cases e:so="mark"
  ·subst e
   rw [kq rfl] at q
   obtain ⟨m,em,_,_⟩:=ZH hfit
   have e1:(!decide (V.str "mark"=V.str "mark"))=false:=by trivial
   rw [e1]
   refine iteF ⟨_,rfl,_,rfl,d,Option.map (fun i:Nat=>V.int (i:Int)) (zZ rs m),rfl,?_,?_⟩
   ·have:DGet H d r.arg (Option.map (fun i:Nat=>V.int (i:Int)) (zZ rs m)):=by
     rw [em,←hL m]
     exact DGet.k (k:=Sum.inl m) hd
    exact this
   ·rw [em] at q
    rw [Option.isSome_map]
    exact q
  ·rw [ko (fun z=>e (kr z))] at q
   have e1:(!decide (V.str so=V.str "mark"))=true:=by
    rw [ke (fun z=>e (by injection z))]
    rfl
   rw [e1]
   exact iteT q
def z8a (K:kn):Sp:=fun vs H Q _=>∃l as rs,vs=[.ref l]∧SqL K H l (as.map V.ref)∧zv H as rs∧(∀r∈rs,Qo r)∧rs.length≤1000∧
 (∀H',Same H H'→(∀i r,rs[i]?=some r→jY rs i r=true)→Q .non H')∧
 (∀(i:Nat) r H',Same H H'→rs[i]?=some r→jY rs i r=false→(∀j r',j < i→rs[j]?=some r'→jY rs j r'=true)→Q (.int i) H')
theorem sc30:zn ["rows","labels","place","row"] ["rows"] (ze (top 30)):=fsM
theorem z1F {rs:List Row} {i:Nat} {r:Row} {m:Int} (h:rs[i]?=some r) (h1:r.op="label") (h2:r.arg=.int m):(zZ rs m).isSome=true:=by
 unfold zZ
 rw [List.findIdx?_isSome,List.any_eq_true]
 exact ⟨r,kz h,by unfold labP;rw [h1,h2];simp⟩
theorem z8S (D:zt K mg "first_bad_place" (top 30)) (G:Glo mg) (FR:FN P w K mg base 6 "is_row" ["thing"] z6U) (FL:FN P w K mg base 7 "label_places" ["rows"] (z3w K)) (FM:FN P w K mg base 2 "mark_fits" ["row","place","labels"] z6s):
  FN P w K mg base 8 "first_bad_place" ["rows"] (z8a K):=by
 refine FN.o D sc30 fun f cdv A outer s H vs Q E hr h=>?_
 obtain ⟨l,as,rs,rfl,hS,hR,hok,hlen,q1,q2⟩:=h
 refine ⟨_,z8 (zI (i:=1) sc30.nd rfl (Or.inl rfl) (zp FL hr rfl (z6 (pv 0) z7)))
  (z8 (Z1 PassesOwn.never rfl (z3R rfl G.enumerate (z6 (pv 0) z7)) (jX rfl (zD (zB (i:=2) sc30.nd rfl (Or.inl rfl)) (zD (zB (i:=3) sc30.nd rfl (Or.inl rfl)) qY)))
   (zd (zH (PW.pt (Zq (jt (qz (zp FR (hr.mono (by decide)) rfl (z6 (pv 3) z7)))) (jr (jt (qz (zp FM (hr.mono (by decide)) rfl (z6 (pv 3) (z6 (pv 2) (z6 (pv 1) z7)))))))))
    (zd (zm (pv 2))) zu)))
  (zd (zm qc))),?_⟩
 refine ⟨_,rfl,l,as,rs,rfl,hS,hR,hok,hlen,fun d kvs H1 hd0 s1 hD hL=>?_⟩
 have hll:as.length=rs.length:=hR.len
 have hml:(as.map V.ref).length=rs.length:=by rw [kg];exact hll
 refine ⟨_,rfl,l,rfl,⟨_,s1.seq hS⟩,z2d (K:=K) (a:=l) (xs:=as.map V.ref) (fun i σ H2=>∃v2 v3,σ=[some (.ref l),some (.ref d),v2,v3]∧Same H1 H2∧∀j r',j < i→rs[j]?=some r'→jY rs j r'=true)
  ⟨none,none,rfl,Same.refl _,fun j _ hj=>absurd hj (Nat.not_lt_zero _)⟩ (fun i σ H2 _ ⟨_,_,_,s2,_⟩=>s2.seq (s1.seq hS)) ?_ ?_⟩
 ·rintro i x σ H2 p hi ⟨v2,v3,rfl,s2,hall⟩ hp
  obtain ⟨a,r,rfl,hr1,ha⟩:=((hR.same s1).same s2).get hi
  have hD2:=s2 _ _ hD
  have npd:d≠p:=zh hD2 hp
  have nap:a≠p:=zh ha hp
  have ha':(upd H2 p (.tup [.int i,.ref a])) a=some (.tup (tupV r)):=by rw [zl nap];exact ha
  have hD':(upd H2 p (.tup [.int i,.ref a])) d=some (.dK kvs):=by rw [zl npd];exact hD2
  have s3:Same H1 (upd H2 p (.tup [.int i,.ref a])):=fun b o e=>by rw [zl (zh (s2 b o e) hp)];exact s2 b o e
  have hro:=hok r (kz hr1)
  obtain ⟨so,hs,hfit,hl0,hl1,hop,hsc⟩:=hro.parts
  refine ⟨p,_,rfl,SqT.of zb,rfl,_,_,rfl,_,_,rfl,rfl,?_⟩
  refine ⟨_,rfl,.inr ⟨a,r.op,r.arg,.int r.line,rfl,ha',hop,hsc,.int _,_,rfl,?_⟩⟩
  have hrow:rowV r.op r.arg (.int r.line)=true:=hro
  rw [hrow]
  refine iteF ⟨_,rfl,_,rfl,_,rfl,a,i,d,r,kvs,rs,rfl,ha',hro,hD',hL,(fun m h1 h2=>z1F hr1 h1 h2),_,rfl,?_⟩
  cases hb:jY rs i r with
  | true=>
   refine iteF ⟨_,_,rfl,s3,fun j r' hj hr'=>?_⟩
   by_cases e:j=i
   ·subst e
    rw [hr1] at hr'
    cases hr'
    exact hb
   ·exact hall j r' (by lia) hr'
  | false=>exact iteT ⟨_,rfl,q2 i r _ (s1.trans s3) hr1 hb hall⟩
 ·rintro σ H2 ⟨v2,v3,rfl,s2,hall⟩
  refine q1 H2 (s1.trans s2) fun i r hir=>hall i r ?_ hir
  rw [hml]
  exact (kd.mp hir).1
def z89:Sp:=fun vs H Q _=>∃l xs,vs=[.ref l]∧H l=some (.lst xs)∧1≤xs.length∧xs.length≤150∧Q (.bl true) H
theorem sc31:zn ["thing"] ["thing"] (ze (top 31)):=fsM
theorem z8Q (D:zt K mg "has_places" (top 31)) (G:Glo mg):FN P w K mg base 1 "has_places" ["thing"] z89:=by
 refine FN.o D sc31 fun f cdv A outer s H vs Q E hr h=>?_
 obtain ⟨l,xs,rfl,hl,h1,h2,q⟩:=h
 refine ⟨_,zd (zm (jh (zw qd rfl G.isinstance zE (z6 (pv 0) (z6 (Q0 "list" rfl G.list z0Z) z7)))
  (j8 (JJ z0q z0q zc (zw zy rfl G.len zW (z6 (pv 0) z7)) (jS rfl G.rows))))),?_⟩
 refine ⟨_,rfl,_,"list",_,true,rfl,.lst hl,rfl,_,rfl,iteT ?_⟩
 refine ⟨_,rfl,l,_,rfl,.inl (SqL.of hl),_,_,rfl,rfl,_,rfl,?_⟩
 have e1:decide ((1:Int)≤(xs.length:Int))=true:=kf (by lia)
 have e2:decide ((xs.length:Int)≤150)=true:=kf (by lia)
 rw [e1]
 refine iteT ⟨_,_,rfl,rfl,?_⟩
 show Q (.bl (decide ((xs.length:Int)≤150))) H
 rw [e2]
 exact q
structure Code (rs:List Row):Prop where
 ok:∀r∈rs,Qo r
 fit:∀i r,rs[i]?=some r→jY rs i r=true
 lo:1≤rs.length
 hi:rs.length≤150
def z3z:Sp:=fun vs H Q _=>∃l as rs,vs=[.ref l]∧H l=some (.lst (as.map V.ref))∧zv H as rs∧Code rs∧∀H',Same H H'→Q .non H'
theorem sc32:zn ["thing","place"] ["thing"] (ze (top 32)):=fsM
theorem z60 (D:zt K mg "check_code" (top 32)) (FH:FN P w K mg base 1 "has_places" ["thing"] z89) (FB:FN P w K mg base 8 "first_bad_place" ["rows"] (z8a K)):FN P w K mg base 9 "check_code" ["thing"] z3z:=by
 refine FN.o D sc32 fun f cdv A outer s H vs Q E hr h=>?_
 obtain ⟨l,as,rs,rfl,hl,hR,hC,q⟩:=h
 refine ⟨_,z8 (zH (jt (qz (zp FH (hr.mono (by decide)) rfl (z6 (pv 0) z7)))) Z0 zu)
  (z8 (zI (i:=1) sc32.nd rfl (Or.inl rfl) (zp FB hr rfl (z6 (pv 0) z7)))
  (zd (zH (zk JL (pv 1) qc (zo _)) Z0 zu))),?_⟩
 have hll:as.length=rs.length:=hR.len
 refine ⟨_,rfl,l,_,rfl,hl,by rw [kg,hll];exact hC.lo,by rw [kg,hll];exact hC.hi,_,rfl,iteF ?_⟩
 refine ⟨_,rfl,l,as,rs,rfl,SqL.of hl,hR,hC.ok,km hC.hi (by decide),fun H' s' _=>?_,fun i r H' s' hi hf _=>?_⟩
 ·exact ⟨_,rfl,rfl,_,rfl,iteF (q H' s')⟩
 ·rw [hC.fit i r hi] at hf
  cases hf
end
noncomputable def qM:List (Str × Int):=[("store",1),("drop",1),("add",2),("sub",2),("mul",2),("div",2),("rest",2),("less",2),("same",2),("neg",1),("not",1),("tell",1),("iftrue",1),("iffalse",1),("ortrue",1),("orfalse",1),("return",1),("raise",1)]
noncomputable def qK:List (Str × Int):=[("push",1),("load",1),("quick",1),("copy",1),("add",1),("sub",1),("mul",1),("div",1),("rest",1),("less",1),("same",1),("neg",1),("not",1)]
noncomputable def qD:List (Str × Int):=[("try",1),("endtry",-1)]
noncomputable def jumping:List Str:=["jump","iftrue","iffalse","ortrue","orfalse"]
noncomputable def leaving:List Str:=["ortrue","orfalse"]
noncomputable def qG:List Str:=["jump","return","raise"]
noncomputable def faulting:List Str:=["load","clear","add","sub","mul","div","rest","less","neg","raise"]
noncomputable def z0H (t:List (Str × Int)):List (Str × V):=t.map fun p=>(p.1,V.int p.2)
noncomputable def tabI (t:List (Str × Int)) (x:Str):Int:=(t.lookup x).getD 0
theorem ZL (t:List (Str × Int)) (x:Str):((z0H t).lookup x).getD (.int 0)=.int (tabI t x):=by
 unfold z0H tabI
 rw [Zf]
 cases t.lookup x <;> rfl
def KTup (K:kn) (a:Addr) (xs:List V):Prop:=
 ∃(o:Obj) (its:Array Value) (n:Nat),K.lookup a=some o∧o.cls=.type "tuple"∧o.data=.seq its n∧its.size≤sizeLine∧Vals xs its.toList
theorem KTup.sq {K:kn} {a:Addr} {xs:List V} (h:KTup K a xs) (H:Hp):SqT K H a xs:=.inr h
structure z6l (w:World) (K:kn) (mg:Str→Option Value):Prop where
 takes:∃d,mg "TAKES"=some (.ref d)∧KTab w.params K d (z0H qM)
 pushes:∃d,mg "PUSHES"=some (.ref d)∧KTab w.params K d (z0H qK)
 gput:∃d,mg "GUARDS_PUT"=some (.ref d)∧KTab w.params K d (z0H qD)
 jumping:∃a,mg "JUMPING"=some (.ref a)∧KTup K a (jumping.map V.str)
 leaving:∃a,mg "LEAVING"=some (.ref a)∧KTup K a (leaving.map V.str)
 never:∃a,mg "NEVER_ON"=some (.ref a)∧KTup K a (qG.map V.str)
 faulting:∃a,mg "FAULTING"=some (.ref a)∧KTup K a (faulting.map V.str)
 first:∃a g,mg "FIRST_STATE"=some (.ref a)∧KTup K a [.int 0,.ref g]∧KTup K g []
noncomputable def inT (x:Str) (l:List Str):Bool:=inV (.str x) (l.map V.str)
theorem jI {x:Str} {l:List Str}:inT x l=true↔x∈l:=by
 unfold inT inV
 rw [List.any_map,List.any_eq_true]
 constructor
 ·rintro ⟨y,hy,e⟩
  have e:(y == x)=true:=e
  rw [beq_iff_eq] at e
  exact e▸hy
 ·exact fun h=>⟨x,h,by show (x == x)=true;simp⟩
theorem Z6 (l:List Str):(l.map V.str).all Zk=true:=by
 rw [List.all_map,List.all_eq_true]
 exact fun _ _=>rfl
noncomputable def jx:List Str:=["copy","swap"]
noncomputable def qi (r:Row):Int:=if inT r.op jx=true then (match r.arg with | .int n=>n | _=>0) else tabI qM r.op
abbrev Gd:=Int × Int
def Z9 (H:Hp) (x:V):Option Gd→Prop
 | none=>x=.non
 | some g=>∃a,x=.ref a∧H a=some (.tup [.int g.1,.int g.2])
theorem Z9.same {H H':Hp} {x:V} {og:Option Gd} (h:Z9 H x og) (s:Same H H'):Z9 H' x og:=by
 cases og with
 | none=>exact h
 | some g=>
  obtain ⟨a,e,h⟩:=h
  exact ⟨a,e,s _ _ h⟩
noncomputable def Q5 (r:Row) (og:Option Gd):Bool:=decide (r.op="endtry")&&og.isNone
noncomputable def qI (r:Row) (d:Int) (og:Option Gd):Bool:=match og with
 | none=>false
 | some g=>if r.op="copy" then false else decide ((if d - qi r > 0 then d - qi r else 0) < (if g.2 < d then g.2 else d))
theorem z36 {r:Row} (hok:Qo r) (h:inT r.op jx=true):∃n:Int,r.arg=.int n∧1≤n∧n≤9:=by
 obtain ⟨s,hs,hfit,_⟩:=hok.parts
 rw [jI] at h
 rcases kw.mp h with h | h
 ·rw [h,show zR "copy"=some "copied" by trivial] at hs
  cases hs
  have e:jc "copied" r.arg=JX r.arg:=by
   unfold jc
   rw [ko (by trivial),ko (by trivial),kq rfl]
  rw [e] at hfit
  exact qy hfit
 ·rw [kj.mp h,show zR "swap"=some "swapped" by trivial] at hs
  cases hs
  have e:jc "swapped" r.arg=Qs r.arg:=by
   unfold jc
   rw [ko (by trivial),ko (by trivial),ko (by trivial),kq rfl]
  rw [e] at hfit
  obtain ⟨n,h1,h2,h3⟩:=qy hfit
  exact ⟨n,h1,by lia,h3⟩
theorem Zz {K:kn} {H H':Hp} {a:Addr} {xs:List V} (s:Same H H') (h:SqT K H a xs):SqT K H' a xs:=by
 rcases h with (h | ⟨o,h⟩) | h
 ·exact .inl (.inl (s _ _ h))
 ·exact .inl (.inr ⟨o,s _ _ h⟩)
 ·exact .inr h
section
def spUp (K:kn):Sp:=fun vs H Q _=>∃(g:Addr) (as:List Addr),vs=[.ref g]∧SqT K H g (as.map V.ref)∧((as=[]∧Q .non H)∨∃bs a,as=bs++[a]∧Q (.ref a) H)
theorem sc42:zn ["guards"] ["guards"] (ze (top 42)):=fsM
theorem z9B (D:zt K mg "uppermost" (top 42)):FN P w K mg base 1 "uppermost" ["guards"] (spUp K):=by
 refine FN.o D sc42 fun f cdv A outer s H vs Q E hr h=>?_
 obtain ⟨g,as,rfl,hS,q⟩:=h
 refine ⟨_,zd (zm (j6 (Qx (pv 0) (fun _=>rfl)) (zx zS (pv 0) (JH Zw zc) (fun _ _=>rfl)) qc)),?_⟩
 rcases q with ⟨rfl,q⟩ | ⟨bs,a,rfl,q⟩
 ·exact ⟨_,rfl,false,.inr (.inl ⟨_,hS,rfl⟩),iteF q⟩
 ·refine ⟨_,rfl,true,.inr (.inl ⟨_,hS,by simp⟩),iteT ⟨_,rfl,1,rfl,g,_,_,.ref a,rfl,rfl,hS,?_,q⟩⟩
  rw [kE]
  exact z2r _ _
def z1h:Sp:=fun vs H Q _=>∃a r,vs=[.ref a]∧H a=some (.tup (tupV r))∧Qo r∧∀H',Same H H'→Q (.int (qi r)) H'
theorem sc43:zn ["row","op","arg"] ["row"] (ze (top 43)):=fsM
theorem z61 (D:zt K mg "depth_asked" (top 43)) (T:z6l w K mg):FN P w K mg base 1 "depth_asked" ["row"] z1h:=by
 refine FN.o D sc43 fun f cdv A outer s H vs Q E hr h=>?_
 obtain ⟨a,r,rfl,ha,hok,q⟩:=h
 obtain ⟨d,md,td⟩:=T.takes
 refine ⟨_,z8 (Qc (i:=1) (j:=2) rfl sc43.nd rfl rfl (by decide) rfl rfl (z6 (zx zS (pv 0) zc (fun _ _=>rfl)) (z6 (zx zS (pv 0) zc (fun _ _=>rfl)) z7)) rfl)
  (zd (zm (j6 (zk qB (pv 1) (zF (z6 zf (z6 zf z7))) rfl) (pv 2) (Qy td rfl md (pv 1) zc ⟨rfl,rfl,rfl,rfl⟩)))),?_⟩
 refine ⟨_,rfl,a,_,_,_,rfl,rfl,SqT.of ha,zi (j:=0) rfl,_,rfl,a,_,_,_,rfl,rfl,SqT.of ha,zi (j:=1) rfl,_,_,rfl,?_⟩
 refine ⟨_,rfl,by show 2≤sizeLine;decide,fun p hp=>?_⟩
 have s1:=zg hp (.tup (jx.map V.str))
 refine ⟨p,_,rfl,.inr (SqT.of (xs:=jx.map V.str) zb),rfl,Z6 _,_,rfl,?_⟩
 have q:=q _ s1
 unfold qi at q
 refine ite2 (fun c=>?_) (fun c=>?_)
 ·have c':inT r.op jx=true:=c
  obtain ⟨n,en,_⟩:=z36 hok c'
  rw [kq c',en] at q
  refine ⟨r.arg,rfl,?_⟩
  rw [en]
  exact q
 ·have c':¬inT r.op jx=true:=c
  rw [ko c'] at q
  refine ⟨_,rfl,r.op,rfl,?_⟩
  rw [ZL]
  exact q
def z1e:Sp:=fun vs H Q _=>∃a r d,vs=[.ref a,.int d]∧H a=some (.tup (tupV r))∧Qo r∧∀H',Same H H'→Q (.bl (decide (d < qi r))) H'
theorem sc44:zn ["row","depth"] ["row","depth"] (ze (top 44)):=fsM
theorem z5W (D:zt K mg "lacks_values" (top 44)) (F1:FN P w K mg base 1 "depth_asked" ["row"] z1h):FN P w K mg base 2 "lacks_values" ["row","depth"] z1e:=by
 refine FN.o D sc44 fun f cdv A outer s H vs Q E hr h=>?_
 obtain ⟨a,r,d,rfl,ha,hok,q⟩:=h
 refine ⟨_,zd (zm (zU Q2 (pv 1) (zp F1 hr rfl (z6 (pv 0) z7)) (zo _))),?_⟩
 exact ⟨_,rfl,_,rfl,a,r,rfl,ha,hok,fun H' s'=>⟨_,_,rfl,rfl,q H' s'⟩⟩
def z1f:Sp:=fun vs H Q _=>∃a r gv og,vs=[.ref a,gv]∧H a=some (.tup (tupV r))∧Z9 H gv og∧Q (.bl (Q5 r og)) H
theorem sc45:zn ["row","guard"] ["row","guard"] (ze (top 45)):=fsM
theorem z4o {H:Hp} {x:V} {og:Option Gd} (h:Z9 H x og):decide (x=.non)=og.isNone:=by
 cases og with
 | none=>rw [show x=.non from h];rfl
 | some g=>obtain ⟨a,e,_⟩:=h;rw [e];rfl
theorem z5X (D:zt K mg "lacks_guard" (top 45)):FN P w K mg base 1 "lacks_guard" ["row","guard"] z1f:=by
 refine FN.o D sc45 fun f cdv A outer s H vs Q E hr h=>?_
 obtain ⟨a,r,gv,og,rfl,ha,hg,q⟩:=h
 refine ⟨_,zd (zm (jh (zU qe (zx zS (pv 0) zc (fun _ _=>rfl)) zf (zo _)) (j8 (zU QV (pv 1) qc (zo _))))),?_⟩
 refine ⟨_,rfl,a,_,_,_,rfl,rfl,SqT.of ha,zi (j:=0) rfl,rfl,_,rfl,?_⟩
 unfold Q5 at q
 rw [←z4o hg] at q
 refine ite2 (fun c=>?_) (fun c=>?_)
 ·have e:r.op="endtry":=by have:=ku c;injection this
  rw [kf e,Bool.true_and] at q
  exact ⟨_,rfl,rfl,q⟩
 ·have e:¬r.op="endtry":=fun z=>c (by rw [z];rfl)
  rw [ke e,Bool.false_and] at q
  exact q
def z0d:Sp:=fun vs H Q _=>∃a r d gv og,vs=[.ref a,.int d,gv]∧H a=some (.tup (tupV r))∧Qo r∧Z9 H gv og∧∀H',Same H H'→Q (.bl (qI r d og)) H'
theorem sc46:zn ["row","depth","guard","lowest"] ["row","depth","guard"] (ze (top 46)):=fsM
theorem z6d:bootBuiltins "max"=some (.builtin "max"):=by trivial
theorem z6c:bootBuiltins "min"=some (.builtin "min"):=by trivial
theorem z31 (D:zt K mg "takes_beneath" (top 46)) (G:Glo mg) (F1:FN P w K mg base 1 "depth_asked" ["row"] z1h):FN P w K mg base 2 "takes_beneath" ["row","depth","guard"] z0d:=by
 refine FN.o D sc46 fun f cdv A outer s H vs Q E hr h=>?_
 obtain ⟨a,r,d,gv,og,rfl,ha,hok,hg,q⟩:=h
 refine ⟨_,z8 (zH (PW.pt (Zq (zk QV (pv 2) qc (zo _)) (jr (zk qe (zx zS (pv 0) zc (fun _ _=>rfl)) zf (zo _))))) (zd (zm Z2)) zu)
  (z8 (zI (i:=3) sc46.nd rfl (Or.inl rfl) (zw (z4W rfl) rfl G.max z6d (z6 zc (z6 (zG qo (pv 1) (zp F1 hr rfl (z6 (pv 0) z7))) z7))))
  (zd (zm (zU Q2 (pv 3) (zw (z4V rfl) rfl G.min z6c (z6 (pv 1) (z6 (zx zS (pv 2) zc (fun _ _=>rfl)) z7))) (zo _))))),?_⟩
 refine ⟨_,rfl,rfl,_,rfl,?_⟩
 cases og with
 | none=>
  have e:gv=.non:=hg
  subst e
  exact iteT (iteT (q H (Same.refl _)))
 | some g=>
  obtain ⟨ga,rfl,hga⟩:=hg
  refine iteF ⟨_,rfl,a,_,_,_,rfl,rfl,SqT.of ha,zi (j:=0) rfl,rfl,_,rfl,?_⟩
  unfold qI at q
  refine ite2 (fun c=>?_) (fun c=>?_)
  ·have e:r.op="copy":=by have:=ku c;injection this
   simp only [kq e] at q
   exact q H (Same.refl _)
  ·have e:¬r.op="copy":=fun z=>c (by rw [z];rfl)
   simp only [ko e] at q
   refine ⟨_,rfl,_,rfl,a,r,rfl,ha,hok,fun H' s'=>⟨_,_,rfl,rfl,_,_,rfl,?_⟩⟩
   exact ⟨_,rfl,_,rfl,_,rfl,ga,_,_,_,rfl,rfl,SqT.of (s' _ _ hga),zi (j:=1) rfl,_,_,rfl,_,_,rfl,rfl,q H' s'⟩
end
theorem PS.imp {X:Cx} {st:Stmt} {t t':TS} (h:PS X st t) (hi:∀D σ H,t' D σ H→t D σ H):PS X st t':=fun pins s σ H D I q=>h pins s σ H D I (hi D σ H q)
abbrev Mv:=V × Int × Int
abbrev Zv (H:Hp):List Addr→List Mv→Prop:=Paired fun t m=>H t=some (.tup [m.1,.int m.2.1,.int m.2.2])
theorem Zv.same {H H':Hp} {ts:List Addr} {ms:List Mv} (h:Zv H ts ms) (k:∀a xs,H a=some (.tup xs)→H' a=some (.tup xs)):Zv H' ts ms:=Paired.mapP h fun _ _ e=>k _ _ e
theorem Zv.append {H:Hp} {as bs:List Addr} {rs ts:List Mv} (h:Zv H as rs) (k:Zv H bs ts):Zv H (as++bs) (rs++ts):=z1V h k
theorem Zv.get {H:Hp} {as:List Addr} {rs:List Mv} {i:Nat} {x:V} (h:Zv H as rs) (e:(as.map V.ref)[i]?=some x):∃a r,x=.ref a∧rs[i]?=some r∧H a=some (.tup [r.1,.int r.2.1,.int r.2.2]):=z3N h e
noncomputable def qr (r:Row) (d:Int):Int:=d - tabI qM r.op+tabI qK r.op
noncomputable def labV (rs:List Row) (m:Int):V:=match zZ rs m with
 | some j=>.int (j:Nat)
 | none=>.non
noncomputable def argM (x:V):Int:=match x with
 | .int m=>m
 | _=>0
noncomputable def mv1 (r:Row) (place:Nat) (d:Int):List Mv:=if inT r.op qG=true then [] else [(.int ((place:Int)+1),qr r d,tabI qD r.op)]
noncomputable def mv2 (rs:List Row) (r:Row) (d:Int):List Mv:=if inT r.op jumping=true then [(labV rs (argM r.arg),if inT r.op leaving=true then d else qr r d,0)] else []
noncomputable def mv3 (rs:List Row) (r:Row) (og:Option Gd):List Mv:=if inT r.op faulting=true then (match og with | some g=>[(labV rs g.1,g.2+1,-1)] | none=>[]) else []
noncomputable def ja (rs:List Row) (place:Nat) (r:Row) (d:Int) (og:Option Gd):List Mv:=if decide (d < qi r)=true then [] else if Q5 r og=true then [] else mv1 r place d++mv2 rs r d++mv3 rs r og
theorem z5D {rs:List Row} {i:Nat} {r:Row} (hc:Code rs) (hr:rs[i]?=some r) (h:inT r.op jumping=true):∃(m:Int) (j:Nat),r.arg=.int m∧zZ rs m=some j:=by
 have hok:=hc.ok r (kz hr)
 obtain ⟨s,hs,hfit,_⟩:=hok.parts
 have hm:zR r.op=some ("mark":Str)∧r.op≠"label":=by
  rw [jI] at h
  have all:∀x∈jumping,zR x=some ("mark":Str)∧x≠"label":=by trivial
  exact all _ h
 rw [hm.1] at hs
 cases hs
 obtain ⟨m,em,_,_⟩:=ZH hfit
 have hf:=hc.fit i r hr
 unfold jY at hf
 rw [ko hm.2,kq hm.1,em] at hf
 obtain ⟨j,hj⟩:=Option.isSome_iff_exists.mp hf
 exact ⟨m,j,em,hj⟩
def sMv (σ0:Addr→L2.St) (Hin:Hp) (new:List Mv):TS:=fun D σ H=>∃(fa:Addr) (ts:List Addr) (ms:List Mv),σ=σ0 fa∧Hin fa=none∧Same Hin H∧H fa=some (.lst (ts.map V.ref))∧Zv H ts ms∧ts.length≤100∧
 ∀H' ts',Same Hin H'→H' fa=some (.lst (ts'.map V.ref))→Zv H' ts' (ms++new)→ts'.length≤ts.length+1→D.nx (σ0 fa) H'
theorem z46 {Hin H:Hp} {fa p:Addr} {ts:List Addr} {ms:List Mv} {m:Mv} (hn:Hin fa=none) (sm:Same Hin H) (hf:H fa=some (.lst (ts.map V.ref))) (hM:Zv H ts ms) (hp:H p=none):
  Same Hin (upd (upd H p (.tup [m.1,.int m.2.1,.int m.2.2])) fa (.lst (ts.map V.ref++[.ref p])))∧upd (upd H p (.tup [m.1,.int m.2.1,.int m.2.2])) fa (.lst (ts.map V.ref++[.ref p])) fa=some (.lst ((ts++[p]).map V.ref))∧
   Zv (upd (upd H p (.tup [m.1,.int m.2.1,.int m.2.2])) fa (.lst (ts.map V.ref++[.ref p]))) (ts++[p]) (ms++[m]):=by
 have npf:p≠fa:=(zh hf hp).symm
 have kt:∀a xs,(upd H p (.tup [m.1,.int m.2.1,.int m.2.2])) a=some (.tup xs)→(upd (upd H p (.tup [m.1,.int m.2.1,.int m.2.2])) fa (.lst (ts.map V.ref++[.ref p]))) a=some (.tup xs):=fun a xs e=>by
  rw [zl (fun z=>by rw [z,zl npf.symm,hf] at e;cases e)];exact e
 refine ⟨fun b o e=>?_,?_,Zv.append ((hM.same fun a xs e=>?_).same kt) (.cons ?_ .nil)⟩
 ·have e2:=sm b o e
  rw [zl (zh e hn),zl (zh e2 hp)]
  exact e2
 ·rw [zb,kE]
  rfl
 ·rw [zl (zh e hp)];exact e
 ·exact kt _ _ zb
section
structure z18 (K:kn) (H:Hp) (l d:Addr) (rs:List Row):Prop where
 rows:∃as,SqL K H l (as.map V.ref)∧zv H as rs
 code:Code rs
 labs:∃kvs,H d=some (.dK kvs)∧Jc kvs rs
theorem zv.get' {H:Hp} {as:List Addr} {rs:List Row} {i:Nat} {r:Row} (h:zv H as rs) (e:rs[i]?=some r):∃a,(as.map V.ref)[i]?=some (.ref a)∧H a=some (.tup (tupV r)):=by
 have hi:i < rs.length:=(kd.mp e).1
 obtain ⟨a,r',h1,h2,h3⟩:=zv.get (i:=i) (x:=(as.map V.ref)[i]'(by rw [kg,h.len];exact hi)) h (kF _)
 rw [e] at h2
 cases h2
 exact ⟨a,by rw [←h1];exact kF _,h3⟩
def z1d (K:kn):Sp:=fun vs H Q _=>∃l d place dep gv og rs r,vs=[.ref l,.ref d,.int (place:Nat),.int dep,gv]∧z18 K H l d rs∧rs[place]?=some r∧Z9 H gv og∧
 ∀f ts H',Same H H'→H f=none→H' f=some (.lst (ts.map V.ref))→Zv H' ts (ja rs place r dep og)→Q (.ref f) H'
theorem sc47:zn ["code","labels","place","depth","guard","row","op","arg","behind","found"] ["code","labels","place","depth","guard"] (ze (top 47)):=fsM
theorem z5T (D:zt K mg "moves" (top 47)) (T:z6l w K mg) (FV:FN P w K mg base 2 "lacks_values" ["row","depth"] z1e) (FG:FN P w K mg base 1 "lacks_guard" ["row","guard"] z1f):
  FN P w K mg base 3 "moves" ["code","labels","place","depth","guard"] (z1d K):=by
 refine FN.o D sc47 fun f cdv A outer s H vs Q E hr h=>?_
 obtain ⟨l,d,place,dep,gv,og,rs,r,rfl,hC,hrp,hg,q⟩:=h
 have hu:=z5F hr
 obtain ⟨⟨as,hS,hR⟩,hc,kvs,hd,hL⟩:=id hC
 obtain ⟨ra,hra,har⟩:=hR.get' hrp
 have hro:=hc.ok r (kz hrp)
 obtain ⟨d1,md1,td1⟩:=T.takes
 obtain ⟨d2,md2,td2⟩:=T.pushes
 obtain ⟨d3,md3,td3⟩:=T.gput
 obtain ⟨a1,ma1,ta1⟩:=T.never
 obtain ⟨a2,ma2,ta2⟩:=T.jumping
 obtain ⟨a3,ma3,ta3⟩:=T.leaving
 obtain ⟨a4,ma4,ta4⟩:=T.faulting
 let σ0:Addr→L2.St:=fun fa=>[some (.ref l),some (.ref d),some (.int (place:Nat)),some (.int dep),some gv,some (.ref ra),some (.str r.op),some r.arg,some (.int (qr r dep)),some (.ref fa)]
 refine ⟨_,z8 (zI (i:=5) sc47.nd rfl (Or.inl rfl) (zx zr (pv 0) (pv 2) (fun _ _=>rfl)))
  (z8 (Qc (i:=6) (j:=7) rfl sc47.nd rfl rfl (by decide) rfl rfl (z6 (zx zS (pv 5) zc (fun _ _=>rfl)) (z6 (zx zS (pv 5) zc (fun _ _=>rfl)) z7)) rfl)
  (z8 (zH (PW.pt (Zq (qz (zp FV hr rfl (z6 (pv 5) (z6 (pv 3) z7)))) (jr (qz (zp FG (hr.mono (by decide)) rfl (z6 (pv 5) (z6 (pv 4) z7))))))) (zd (zm (zO z7))) zu)
  (z8 (zI (i:=8) sc47.nd rfl (Or.inl rfl) (zG j9 (zG qo (pv 3) (Qy td1 rfl md1 (pv 6) zc ⟨rfl,rfl,rfl,rfl⟩)) (Qy td2 rfl md2 (pv 6) zc ⟨rfl,rfl,rfl,rfl⟩)))
  (z8 (zI (i:=9) sc47.nd rfl (Or.inl rfl) (zO z7))
  (z8 (PS.imp (t':=sMv σ0 H (mv1 r place dep)) (zH (zk Qd (pv 6) (Q1 rfl ma1 (v:=.ref a1) rfl) rfl) (zd (zj (Jo (pv 9)
    (z6 (zF (z6 (zG j9 (pv 2) zc) (z6 (pv 8) (z6 (Qy td3 rfl md3 (pv 6) zc ⟨rfl,rfl,rfl,rfl⟩) z7)))) z7)))) zu) ?m1)
  (z8 (PS.imp (t':=sMv σ0 H (mv2 rs r dep)) (zH (zk qB (pv 6) (Q1 rfl ma2 (v:=.ref a2) rfl) rfl) (zd (zj (Jo (pv 9)
    (z6 (zF (z6 (z1q hu (pv 1) (pv 7) (fun _ _=>rfl)) (z6 (j6 (zk qB (pv 6) (Q1 rfl ma3 (v:=.ref a3) rfl) rfl) (pv 3) (pv 8)) (z6 zc z7)))) z7)))) zu) ?m2)
  (z8 (PS.imp (t':=sMv σ0 H (mv3 rs r og)) (zH (PW.pt (js (zk qB (pv 6) (Q1 rfl ma4 (v:=.ref a4) rfl) rfl) (qX (zk JL (pv 4) qc (zo _))))) (zd (zj (Jo (pv 9)
    (z6 (zF (z6 (z5m hu (pv 1) (zx zS (pv 4) zc (fun _ _=>rfl)) ⟨rfl,rfl,rfl,rfl⟩) (z6 (zG j9 (zx zS (pv 4) zc (fun _ _=>rfl)) zc) (z6 (JH Zw zc) z7)))) z7)))) zu) ?m3)
  (zd (zm (pv 9)))))))))),?_⟩
 case m1=>
  rintro D σ H1 ⟨fa,ts,ms,rfl,hn,sm,hf,hM,hl,k⟩
  refine ⟨_,rfl,a1,_,rfl,.inr (ta1.sq _),rfl,Z6 _,_,rfl,?_⟩
  unfold mv1 at k
  refine ite2 (fun c=>?_) (fun c=>?_)
  ·have c':¬inT r.op qG=true:=by
    intro z
    have c:(!inT r.op qG)=true:=c
    rw [z] at c;cases c
   rw [ko c'] at k
   refine ⟨_,rfl,.inl ⟨rfl,_,SqL.of hf⟩,_,rfl,_,_,rfl,rfl,_,rfl,_,rfl,r.op,rfl,by show 3≤sizeLine;decide,fun p hp=>?_⟩
   rw [ZL]
   obtain ⟨k1,k2,k3⟩:=z46 (m:=(.int ((place:Int)+1),qr r dep,tabI qD r.op)) hn sm hf hM hp
   exact ⟨fa,_,.ref p,rfl,rfl,by rw [zl (zh hf hp)];exact hf,qh (by rw [kg];lia),k _ _ k1 k2 k3 (by simp)⟩
  ·have c':inT r.op qG=true:=by
    cases z:inT r.op qG with
    | true=>rfl
    | false=>exact absurd (show (!inT r.op qG)=true by rw [z];rfl) c
   rw [kq c'] at k
   exact k H1 ts sm hf (by rw [kO];exact hM) (by lia)
 case m2=>
  rintro D σ H1 ⟨fa,ts,ms,rfl,hn,sm,hf,hM,hl,k⟩
  refine ⟨_,rfl,a2,_,rfl,.inr (ta2.sq _),rfl,Z6 _,_,rfl,?_⟩
  unfold mv2 at k
  refine ite2 (fun c=>?_) (fun c=>?_)
  ·have c':inT r.op jumping=true:=c
   rw [kq c'] at k
   obtain ⟨m,j,em,hj⟩:=z5D hc hrp c'
   have hv:valV kvs (Sum.inl m:Key)=some (.int (j:Int)):=by rw [hL m,hj];rfl
   have hgt:DGet H1 d r.arg (some (.int (j:Int))):=by rw [em,←hv];exact DGet.k (k:=Sum.inl m) (sm _ _ hd)
   refine ⟨_,rfl,.inl ⟨rfl,_,SqL.of hf⟩,_,rfl,_,rfl,d,_,rfl,hgt,_,rfl,a3,_,rfl,.inr (ta3.sq _),rfl,Z6 _,_,rfl,?_⟩
   have el:labV rs (argM r.arg)=.int (j:Nat):=by
    rw [em]
    show labV rs m=_
    unfold labV
    rw [hj]
   rw [el] at k
   have fin:∀x:Int,(if inT r.op leaving=true then dep else qr r dep)=x→∀p,H1 p=none→z1l (.ref fa) [.ref p] (upd H1 p (.tup [.int (j:Nat),.int x,.int 0])) (fun _ H2=>D.nx (σ0 fa) H2):=fun x ex p hp=>by
    rw [ex] at k
    obtain ⟨k1,k2,k3⟩:=z46 (m:=(.int (j:Nat),x,0)) hn sm hf hM hp
    exact ⟨fa,_,.ref p,rfl,rfl,by rw [zl (zh hf hp)];exact hf,qh (by rw [kg];lia),k _ _ k1 k2 k3 (by simp)⟩
   refine ite2 (fun c2=>?_) (fun c2=>?_)
   ·have c2':inT r.op leaving=true:=c2
    exact ⟨_,rfl,by show 3≤sizeLine;decide,fin dep (kq c2')⟩
   ·have c2':¬inT r.op leaving=true:=c2
    exact ⟨_,rfl,by show 3≤sizeLine;decide,fin _ (ko c2')⟩
  ·have c':¬inT r.op jumping=true:=c
   rw [ko c'] at k
   exact k H1 ts sm hf (by rw [kO];exact hM) (by lia)
 case m3=>
  rintro D σ H1 ⟨fa,ts,ms,rfl,hn,sm,hf,hM,hl,k⟩
  refine ⟨_,rfl,a4,_,rfl,.inr (ta4.sq _),rfl,Z6 _,_,rfl,?_⟩
  unfold mv3 at k
  refine ite2 (fun c=>?_) (fun c=>?_)
  ·have c':inT r.op faulting=true:=c
   rw [kq c'] at k
   have hg1:=hg.same sm
   refine ⟨_,rfl,rfl,_,rfl,?_⟩
   cases og with
   | none=>
    have e:gv=.non:=hg
    rw [e]
    exact iteF (k H1 ts sm hf (by rw [kO];exact hM) (by lia))
   | some g=>
    obtain ⟨ga,eg,hga⟩:=hg1
    rw [ke (show ¬gv=.non by rw [eg];exact nofun)]
    have hgt:DGet H1 d (.int g.1) (valV kvs (Sum.inl g.1:Key)):=DGet.k (k:=Sum.inl g.1) (sm _ _ hd)
    have ev:(valV kvs (Sum.inl g.1:Key)).getD .non=labV rs g.1:=by
     rw [hL]
     unfold labV
     cases zZ rs g.1 <;> rfl
    have eσ:(σ0 fa)[4]?=some (some (.ref ga)):=by rw [←eg];rfl
    refine iteT ⟨_,rfl,.inl ⟨rfl,_,SqL.of hf⟩,_,rfl,d,rfl,.inl ⟨kvs,.inl (sm _ _ hd)⟩,_,eσ,ga,_,_,_,rfl,rfl,SqT.of hga,zi (j:=0) rfl,_,hgt,_,eσ,ga,_,_,_,rfl,rfl,SqT.of hga,zi (j:=1) rfl,_,_,rfl,rfl,1,rfl,by show 3≤sizeLine;decide,fun p hp=>?_⟩
    rw [ev]
    obtain ⟨k1,k2,k3⟩:=z46 (m:=(labV rs g.1,g.2+1,-1)) hn sm hf hM hp
    exact ⟨fa,_,.ref p,rfl,rfl,by rw [zl (zh hf hp)];exact hf,qh (by rw [kg];lia),k _ _ k1 k2 k3 (by simp)⟩
  ·have c':¬inT r.op faulting=true:=c
   rw [ko c'] at k
   exact iteF (k H1 ts sm hf (by rw [kO];exact hM) (by lia))
 refine ⟨_,rfl,_,rfl,l,_,_,_,rfl,rfl,hS,zi hra,?_⟩
 refine ⟨_,rfl,ra,_,_,_,rfl,rfl,SqT.of har,zi (j:=0) rfl,_,rfl,ra,_,_,_,rfl,rfl,SqT.of har,zi (j:=1) rfl,_,_,rfl,?_⟩
 refine ⟨_,rfl,_,rfl,ra,r,dep,rfl,har,hro,fun H1 s1=>⟨_,rfl,?_⟩⟩
 have empty:∀H2,Same H H2→ja rs place r dep og=[]→∀p,H2 p=none→Q (.ref p) (upd H2 p (.lst [])):=fun H2 s2 e p hp=>by
  refine q p [] _ (My.Same.upd s2 (s2.free hp) _) (s2.free hp) zb ?_
  rw [e]
  exact .nil
 unfold ja at q empty
 refine ite2 (fun c=>?_) (fun c=>?_)
 ·rw [kq c] at empty
  exact iteT ⟨by show 0≤sizeLine;decide,empty H1 s1 rfl⟩
 ·rw [ko c] at q empty
  refine ⟨_,rfl,_,rfl,ra,r,gv,og,rfl,s1 _ _ har,hg.same s1,_,rfl,?_⟩
  refine ite2 (fun c2=>?_) (fun c2=>?_)
  ·rw [kq c2] at empty
   exact ⟨by show 0≤sizeLine;decide,empty H1 s1 rfl⟩
  ·rw [ko c2] at q
   refine ⟨_,rfl,_,rfl,r.op,rfl,?_⟩
   rw [ZL]
   refine ⟨_,_,rfl,rfl,_,rfl,r.op,rfl,?_⟩
   rw [ZL]
   refine ⟨_,_,rfl,rfl,by show 0≤sizeLine;decide,fun fa hfa=>?_⟩
   have hn:=s1.free hfa
   refine ⟨fa,[],[],rfl,hn,My.Same.upd s1 hn _,zb,.nil,by simp,fun H3 t3 s3 f3 M3 z3=>?_⟩
   refine ⟨fa,t3,_,rfl,hn,s3,f3,M3,by simp at z3;lia,fun H4 t4 s4 f4 M4 z4=>?_⟩
   refine ⟨fa,t4,_,rfl,hn,s4,f4,M4,by simp at z3;lia,fun H5 t5 s5 f5 M5 z5=>?_⟩
   exact ⟨_,rfl,q fa t5 H5 s5 hn f5 (by simpa using M5)⟩
end
theorem z1p {X:Cx} {pos:Pos} {K:kn} {es:List Expr} {k:Nat} {t:TGs} {n:Nat} (hK:X.K=K) (hc:X.calm=true) (h:PGs X es t)
  (hn:autoParam ((assignEach es X.env).length=n) aR._auto_1) (hst:autoParam ((assignEach es X.env).findIdx? (·.1)=none) aR._auto_1):PG X (.Tuple es k pos) (gTup K n t):=by
 subst hK
 exact jX hc h hn hst
theorem QI {σ:L2.St} {H:Hp} {F G:Hp→Prop} (h:F H):tAll σ H (fun b H5=>if b=true then F H5 else G H5):=by
 show (if true=true then F H else G H)
 rw [kq rfl]
 exact h
theorem nd3:(["goal","deeper","more"]:List Str).Nodup:=by trivial
theorem nd2:(["word","is_lacking"]:List Str).Nodup:=by trivial
theorem jF.plain {X:Cx} {N:List Str} {nt:Nat} {scope:Scope} (nofree:∀y∈scope.names,y.2≠.free) (nocell:∀y∈scope.names,y.2≠.cell) (kind:scope.kind=.function) (names:∀y∈scope.names,y.2=.local→scope.names.lookup y.1=some .local) (hl:N.length=nt):jF X N nt [] scope [] where
 clos:=closureFor_none nofree
 nocell:=nocell
 kind:=kind
 names:=names
 sub:=fun _ _ e=>nomatch e
 has:=fun x h=>by
  rw [Jn nofree] at h
  rcases h with h | h
  ·exact absurd h (ZI nocell x)
  ·exact absurd h (ZI nofree x)
 len:=by rw [hl];rfl
 free:=fun j x e=>by
  rw [List.getElem?_eq_none (by lia)] at e
  cases e
theorem Q7 {K:kn} {a:Addr} {xs:List V} {g:TG} {tc:TT} {te:TE} {R:Hp→Prop} {H:Hp} {l:Addr} {σ0:L2.St} (Pv:Nat→List V→L2.St→Hp→Prop) (h0:Pv 0 [] σ0 (upd H l (.lst []))) (hl:∀i ys σ H,i≤xs.length→Pv i ys σ H→SqL K H a xs)
  (hs:∀i x ys σ H,xs[i]?=some x→Pv i ys σ H→g x σ H fun σ2 H4=>tc σ2 H4 fun b H5=>if b=true then te σ2 H5 fun v H6=>H6 l=some (.lst ys)∧ys.length < sizeLine∧∃m',m' < xs.length - i∧m'=xs.length - (i+1)∧i+1≤xs.length∧Pv (i+1) (ys++[v]) σ2 (upd H6 l (.lst (ys++[v])))
   else ∃m',m' < xs.length - i∧m'=xs.length - (i+1)∧i+1≤xs.length∧Pv (i+1) ys σ2 H5) (hd:∀ys σ H,Pv xs.length ys σ H→R H):
  ∃W:Nat→Nat→List V→L2.St→Hp→Prop,(∃m,W 0 m [] σ0 (upd H l (.lst [])))∧∀i m ys σ' H2,W i m ys σ' H2→
   ((Itl K a).stop i H2∧R H2)∨((Itl K a).go i H2∧∀x H3,(Itl K a).yld i H2 x H3→g x σ' H3 fun σ2 H4=>tc σ2 H4 fun b H5=>if b=true then te σ2 H5 fun v H6=>H6 l=some (.lst ys)∧ys.length < sizeLine∧∃m',m' < m∧W (i+1) m' (ys++[v]) σ2 (upd H6 l (.lst (ys++[v])))
    else ∃m',m' < m∧W (i+1) m' ys σ2 H5):=by
 refine ⟨fun i m ys σ H=>m=xs.length - i∧i≤xs.length∧Pv i ys σ H,⟨xs.length,by simp,Nat.zero_le _,h0⟩,?_⟩
 rintro i m ys σ H ⟨rfl,hi,p⟩
 have q:=hl i ys σ H hi p
 by_cases hlt:i < xs.length
 ·refine .inr ⟨⟨xs,xs[i],q,by simp [hlt]⟩,fun x H' y=>?_⟩
  obtain ⟨e,y⟩:=y
  subst e
  exact hs i x ys σ _ (y xs q) p
 ·have e:i=xs.length:=by lia
  subst e
  exact .inl ⟨⟨xs,q,kc _⟩,hd ys σ H p⟩
theorem z37 {a l:Addr} {kvs:List (Key × V)} {o:Obj} {g:TG} {tc:TT} {te:TE} {Q:VK} {H:Hp} {σ0:L2.St} (Pv:Nat→List V→L2.St→Hp→Prop) (h0:Pv 0 [] σ0 (upd H l (.lst []))) (hf:∀i ys σ H,Pv i ys σ H→H a=some (.frz o (.dK kvs)))
  (hs:∀i p k v ys σ H,kvs[i]?=some (k,v)→Pv i ys σ H→H p=none→g (.ref p) σ (upd H p (.tup [kV k,v])) fun σ2 H4=>tc σ2 H4 fun b H5=>if b=true then te σ2 H5 fun v H6=>H6 l=some (.lst ys)∧ys.length < sizeLine∧∃m',m' < kvs.length - i∧m'=kvs.length - (i+1)∧i+1≤kvs.length∧Pv (i+1) (ys++[v]) σ2 (upd H6 l (.lst (ys++[v])))
   else ∃m',m' < kvs.length - i∧m'=kvs.length - (i+1)∧i+1≤kvs.length∧Pv (i+1) ys σ2 H5) (hd:∀ys σ H,Pv kvs.length ys σ H→Q (.ref l) (upd H a (.dK kvs))):
  ∃W:Nat→Nat→List V→L2.St→Hp→Prop,(∃m,W 0 m [] σ0 (upd H l (.lst [])))∧∀i m ys σ' H2,W i m ys σ' H2→
   H2 a=some (.frz o (.dK kvs))∧(kvs.length≤i→Q (.ref l) (upd H2 a (.dK kvs)))∧(∀p k v,kvs[i]?=some (k,v)→H2 p=none→g (.ref p) σ' (upd H2 p (.tup [kV k,v])) fun σ2 H4=>tc σ2 H4 fun b H5=>if b=true then te σ2 H5 fun v H6=>H6 l=some (.lst ys)∧ys.length < sizeLine∧∃m',m' < m∧W (i+1) m' (ys++[v]) σ2 (upd H6 l (.lst (ys++[v])))
    else ∃m',m' < m∧W (i+1) m' ys σ2 H5):=by
 refine ⟨fun i m ys σ H=>m=kvs.length - i∧i≤kvs.length∧Pv i ys σ H,⟨kvs.length,by simp,Nat.zero_le _,h0⟩,?_⟩
 rintro i m ys σ H ⟨rfl,hi,p⟩
 refine ⟨hf i ys σ H p,fun hle=>?_,fun p' k v hkv hp=>hs i p' k v ys σ H hkv p hp⟩
 have e:i=kvs.length:=by lia
 subst e
 exact hd ys σ H p
noncomputable def QF (rs:List Row) (place:Nat) (r:Row) (d:Int) (og:Option Gd):List (Str × Bool):=
 [("takes",decide (d < qi r)),("guard",Q5 r og),("beneath",qI r d og),("end",inV (.int (rs.length:Nat)) ((ja rs place r d og).map (·.1)))]
noncomputable def QE (rs:List Row) (place:Nat) (r:Row) (d:Int) (og:Option Gd):List Str:=((QF rs place r d og).filter (·.2)).map (·.1)
theorem z0D (rs:List Row) (m:Int):Zk (labV rs m)=true:=by
 unfold labV
 cases zZ rs m <;> rfl
theorem z2H (rs:List Row) (place:Nat) (r:Row) (d:Int) (og:Option Gd):((ja rs place r d og).map (·.1)).all Zk=true:=by
 rw [List.all_map,List.all_eq_true]
 intro m hm
 unfold ja at hm
 split at hm
 ·cases hm
 ·split at hm
  ·cases hm
  ·rcases kM.mp hm with hm | hm
   ·rcases kM.mp hm with hm | hm
    ·unfold mv1 at hm
     split at hm
     ·cases hm
     ·rw [kj.mp hm];rfl
    ·unfold mv2 at hm
     split at hm
     ·rw [kj.mp hm];exact z0D _ _
     ·cases hm
   ·unfold mv3 at hm
    split at hm
    ·cases og with
     | none=>cases hm
     | some g=>rw [kj.mp hm];exact z0D _ _
    ·cases hm
noncomputable def kvs4 (wb:List (Str × Bool)):List (Key × V):=wb.map fun p=>(Sum.inr p.1,V.bl p.2)
theorem z8w (a b c d:Bool):Qe [] (kvs4 [("takes",a),("guard",b),("beneath",c),("end",d)])=kvs4 [("takes",a),("guard",b),("beneath",c),("end",d)]:=by rfl
section
def z3p (K:kn):Sp:=fun vs H Q _=>∃l d place dep gv og rs r,vs=[.ref l,.ref d,.int (place:Nat),.int dep,gv]∧z18 K H l d rs∧rs[place]?=some r∧Z9 H gv og∧
 ∀f H',Same H H'→H f=none→H' f=some (.lst ((QE rs place r dep og).map V.str))→Q (.ref f) H'
theorem sc48:zn ["code","labels","place","depth","guard","row","goals","found"] ["code","labels","place","depth","guard"] (ze (top 48)):=fsM
theorem z5N (D:zt K mg "words_lacking" (top 48)) (G:Glo mg) (FV:FN P w K mg base 2 "lacks_values" ["row","depth"] z1e) (FG:FN P w K mg base 1 "lacks_guard" ["row","guard"] z1f) (FB:FN P w K mg base 2 "takes_beneath" ["row","depth","guard"] z0d)
  (FM:FN P w K mg base 3 "moves" ["code","labels","place","depth","guard"] (z1d K)):FN P w K mg base 4 "words_lacking" ["code","labels","place","depth","guard"] (z3p K):=by
 refine FN.o D sc48 fun f cdv A outer s H vs Q E hr h=>?_
 obtain ⟨l,d,place,dep,gv,og,rs,r,rfl,hC,hrp,hg,q⟩:=h
 obtain ⟨⟨as,hS,hR⟩,hc,kvs,hd,hL⟩:=id hC
 obtain ⟨ra,hra,har⟩:=hR.get' hrp
 have hro:=hc.ok r (kz hrp)
 have hr2:=hr.mono (show 2≤3 by decide)
 have hr1:=hr.mono (show 1≤3 by decide)
 refine ⟨_,z8 (zI (i:=5) sc48.nd rfl (Or.inl rfl) (zx zr (pv 0) (pv 2) (fun _ _=>rfl)))
  (z8 (jR (N:=["goal","deeper","more"]) (nt:=3) (ix:=[]) (cl:=[]) (i:=6) rfl sc48.nd rfl (Or.inl rfl) (jF.plain (by trivial) (by trivial) rfl (by trivial) rfl)
   (ZZ (zp FM hr rfl (z6 (pv 0) (z6 (pv 1) (z6 (pv 2) (z6 (pv 3) (z6 (pv 4) z7)))))))
   (fun _ _ _ _=>z1p (K:=K) (n:=3) rfl rfl (zD (zB (i:=0) nd3 rfl (Or.inl rfl)) (zD (zB (i:=1) nd3 rfl (Or.inl rfl)) (zD (zB (i:=2) nd3 rfl (Or.inl rfl)) qY))))
   (fun _ _ _ _=>QQ) (fun _ _ _ _=>pv 0))
  (z8 (zI (i:=7) sc48.nd rfl (Or.inl rfl) (z3U (ZC zf (zp FV hr2 rfl (z6 (pv 5) (z6 (pv 3) z7))) (ZC zf (zp FG hr1 rfl (z6 (pv 5) (z6 (pv 4) z7)))
    (ZC zf (zp FB hr2 rfl (z6 (pv 5) (z6 (pv 3) (z6 (pv 4) z7)))) (ZC zf (zU qB (zw zy rfl G.len zW (z6 (pv 0) z7)) (pv 6) rfl) z3O)))) rfl rfl nofun (by decide)))
  (zd (zm (z5n (N:=["word","is_lacking"]) (nt:=2) (ix:=[]) (cl:=[]) rfl (jF.plain (by trivial) (by trivial) rfl (by trivial) rfl) (pv 7)
   (fun _ _ _ _=>z1p (K:=K) (n:=2) rfl rfl (zD (zB (i:=0) nd2 rfl (Or.inl rfl)) (zD (zB (i:=1) nd2 rfl (Or.inl rfl)) qY)))
   (fun _ _ _ _=>z1m (qz (pv 1))) (fun _ _ _ _=>pv 0)))))),?_⟩
 refine ⟨_,rfl,_,rfl,l,_,_,_,rfl,rfl,hS,zi hra,?_⟩
 refine ⟨_,rfl,_,rfl,_,rfl,_,rfl,_,rfl,l,d,place,dep,gv,og,rs,r,rfl,hC,hrp,hg,fun ml ts H1 s1 hn1 hm1 hM1=>?_⟩
 generalize hms:ja rs place r dep og=ms at hM1
 refine ⟨ml,rfl,⟨_,SqL.of hm1⟩,fun gl hgl=>Q7 (K:=K) (a:=ml) (xs:=ts.map V.ref) (fun i ys σ H2=>(∃a b c,σ=[a,b,c])∧ys=(ms.take i).map (·.1)∧Same H1 H2∧H2 gl=some (.lst ys))
  ⟨⟨none,none,none,rfl⟩,rfl,zg hgl _,zb⟩ (fun i ys σ H2 _ ⟨_,_,s2,_⟩=>s2.seq (SqL.of hm1)) ?_ ?_⟩
 ·rintro i x ys σ H2 hi ⟨⟨a,b,c,rfl⟩,rfl,s2,hp2⟩
  obtain ⟨t,m,rfl,hm,ht⟩:=(hM1.same fun a xs e=>s2 _ _ e).get hi
  have hil:i < ts.length:=by have:=(kd.mp hi).1;simpa using this
  have hml:ts.length=ms.length:=Paired.length hM1
  refine ⟨t,_,rfl,SqT.of ht,rfl,_,_,rfl,_,_,rfl,_,_,rfl,rfl,?_⟩
  refine QI ⟨_,rfl,hp2,?_,_,?_,rfl,?_,⟨_,_,_,rfl⟩,?_,?_,zb⟩
  ·rw [kg,List.length_take]
   have h1:ms.length≤3:=by
    rw [←hms]
    unfold ja mv1 mv2 mv3
    repeat' split
    all_goals simp
   exact qh (by lia)
  ·rw [kg];lia
  ·rw [kg];lia
  ·rw [jL hm,kE];rfl
  ·exact My.Same.upd s2 hgl _
 ·rintro ys σ H2 ⟨_,rfl,s2,hp2⟩
  have hml:ts.length=ms.length:=Paired.length hM1
  rw [kg,hml,List.take_length] at hp2
  have s02:=s1.trans s2
  intro fd hfd
  have hgl0:H gl=none:=s1.free hgl
  have hfd0:H fd=none:=s02.free hfd
  have s3:=zg hfd (.dK [])
  refine ⟨_,rfl,_,rfl,ra,r,dep,rfl,s3 _ _ (s02 _ _ har),hro,fun H4 s4=>?_⟩
  have s24:=s3.trans s4
  refine ⟨_,rfl,_,rfl,ra,r,gv,og,rfl,s24 _ _ (s02 _ _ har),(hg.same s02).same s24,?_⟩
  refine ⟨_,rfl,_,rfl,_,rfl,ra,r,dep,gv,og,rfl,s24 _ _ (s02 _ _ har),hro,(hg.same s02).same s24,fun H5 s5=>?_⟩
  have s25:=s24.trans s5
  refine ⟨_,rfl,l,_,rfl,.inl (s25.seq (s02.seq hS)),_,rfl,gl,_,rfl,.inl (SqL.of (s25 _ _ hp2)),rfl,by rw [←hms];exact z2H _ _ _ _ _,?_⟩
  refine ⟨s5 _ _ (s4 _ _ zb),kvs4 (QF rs place r dep og),?_,(by show 4≤15;decide),?_⟩
  ·unfold QF kvs4
   rw [hms,kg,hR.len]
   rfl
  ·rw [show Qe [] (kvs4 (QF rs place r dep og))=kvs4 (QF rs place r dep og) from z8w _ _ _ _]
   generalize hwb:QF rs place r dep og=wb
   have hwl:wb.length=4:=by rw [←hwb];rfl
   have sH5:Same H H5:=s02.trans s25
   refine ⟨_,rfl,fd,kvs4 wb,rfl,zb,fun o l2 hl2=>?_⟩
   have nlf:l2≠fd:=fun z=>by rw [z,zb] at hl2;cases hl2
   have hl20:H l2=none:=sH5.free (by rw [zl nlf] at hl2;exact hl2)
   refine z37 (fun i ys σ H2=>(∃a b,σ=[a,b])∧ys=((wb.take i).filter (·.2)).map (fun p=>V.str p.1)∧Same H H2∧H2 l2=some (.lst ys)∧H2 fd=some (.frz o (.dK (kvs4 wb)))) ⟨⟨none,none,rfl⟩,rfl,?_,zb,?_⟩ (fun i ys σ H2 h=>h.2.2.2.2) ?_ ?_
   ·intro b o e
    rw [zl (zh e hl20),zl (zh e hfd0),zl (zh e hfd0)]
    exact sH5 _ _ e
   ·rw [zl nlf.symm];exact zb
   ·rintro i p k v ys σ H2 hi ⟨⟨a,b,rfl⟩,rfl,s2',hp2',hf2⟩ hp
    have hil:i < 4:=by have:=(kd.mp hi).1;unfold kvs4 at this;rw [kg,hwl] at this;exact this
    have hkl:(kvs4 wb).length=4:=by unfold kvs4;rw [kg,hwl]
    obtain ⟨pw,hpw,ek⟩:∃pw:Str × Bool,wb[i]?=some pw∧(k,v)=(Sum.inr pw.1,V.bl pw.2):=by
     unfold kvs4 at hi
     rw [List.getElem?_map] at hi
     cases e:wb[i]? with
     | none=>rw [e] at hi;cases hi
     | some pw=>rw [e] at hi;exact ⟨pw,rfl,(kr hi).symm⟩
    cases ek
    have npl:l2≠p:=zh hp2' hp
    have npf:fd≠p:=zh hf2 hp
    have sp:Same H (upd H2 p (.tup [kV (Sum.inr pw.1),V.bl pw.2])):=fun b o e=>by rw [zl (zh (s2' _ _ e) hp)];exact s2' _ _ e
    refine ⟨p,_,rfl,SqT.of zb,rfl,_,_,rfl,_,_,rfl,rfl,_,rfl,pw.2,rfl,?_⟩
    have efil:(wb.take (i+1)).filter (·.2)=(wb.take i).filter (·.2)++(if pw.2=true then [pw] else []):=by
     rw [jL hpw,List.filter_append]
     congr 1
     cases hh:pw.2 <;> simp [hh]
    refine ite2 (fun c=>?_) (fun c=>?_)
    ·rw [kq c] at efil
     refine ⟨_,rfl,by rw [zl npl];exact hp2',?_,_,by lia,rfl,by lia,⟨_,_,rfl⟩,?_,?_,zb,?_⟩
     ·rw [kg]
      have h1:=List.length_filter_le (fun p:Str × Bool=>p.2) (wb.take i)
      rw [List.length_take] at h1
      exact qh (by lia)
     ·rw [efil,kE];rfl
     ·exact fun b o e=>by rw [zl (zh e hl20)];exact sp _ _ e
     ·rw [zl nlf.symm,zl npf];exact hf2
    ·rw [ko c,kO] at efil
     exact ⟨_,by lia,rfl,by lia,⟨_,_,rfl⟩,by rw [efil],sp,by rw [zl npl];exact hp2',by rw [zl npf];exact hf2⟩
   ·rintro ys σ H2 ⟨_,rfl,s2',hp2',hf2⟩
    refine q l2 _ (fun b o e=>?_) hl20 ?_
    ·rw [zl (zh e hfd0)];exact s2' _ _ e
    ·rw [zl nlf,hp2']
     unfold QE
     rw [hwb,show (kvs4 wb).length=wb.length by unfold kvs4;rw [kg],List.take_length,List.map_map]
     rfl
end
theorem sc50:zn ["code","labels","place","state","depth","guards"] ["code","labels","place","state"] (ze (top 50)):=fsM
noncomputable def z4M:Scope:=match (zV (top 50)).getD 1 (.Pass ⟨0,0,0,0⟩) with
 | .Return (some (.ListComp _ _ s _)) _=>s
 | _=>ze (top 50)
noncomputable def cl52 (L:Addr):List (Str × Addr):=[("state",L+1+1+1),("place",L+1+1),("code",L+1)]
noncomputable def nm52:List (Str × NameKind):=[(".0",.local),("goal",.local),("deeper",.local),("more",.local),("guards_behind",.globalImplicit),("code",.cell),("place",.cell),("state",.cell)]
noncomputable def N52:List Str:=["goal","deeper","more","code","place","state"]
theorem z8Y (f:Addr) (cdv:Value) (L:Addr):closureFor z4M (envOfC "next_states" (ze (top 50)) L f cdv)=pure (cl52 L):=by rfl
theorem z9k (f:Addr) (cdv:Value) (L:Addr):(relabel z4M (envOfC "next_states" (ze (top 50)) L f cdv)).names=nm52:=by rfl
theorem cs52 {P:Program} {w:World} {K:kn} {mg:Str→Option Value} {base:Heap} {f:Addr} {cdv:Value} {A:Around} {outer:List Env} {s:Shared} {H:Hp} {E:XK}:
  jF (cxOf CX0 P w K mg base ["code","labels","place","state","depth","guards"] "next_states" (ze (top 50)) f cdv A outer s H E).nox N52 3 [0,2,3] z4M (cl52 s.heap.objs.size) where
 clos:=z8Y f cdv s.heap.objs.size
 nocell:=by trivial
 kind:=rfl
 names:=by trivial
 sub:=fun x c e=>e
 has:=fun x h=>by
  have e:=z9k f cdv s.heap.objs.size
  have h:nm52.lookup x=some .cell∨nm52.lookup x=some .free:=by rw [←e];exact h
  have:x="code"∨x="place"∨x="state":=by
   rcases h with h | h
   ·have hm:=PySem.mem_of_lookup h
    simp only [nm52,kw,Prod.mk.injEq,kl,or_false] at hm
    rcases hm with z | z | z | z | z | z | z | z
    all_goals first | exact .inl z.1 | exact .inr (.inl z.1) | exact .inr (.inr z.1) | exact z.2.elim | cases z.2
   ·have hm:=PySem.mem_of_lookup h
    simp only [nm52,kw,Prod.mk.injEq,kl,or_false] at hm
    rcases hm with z | z | z | z | z | z | z | z
    all_goals first | exact z.2.elim | cases z.2
  rcases this with rfl | rfl | rfl
  ·exact ⟨_,rfl⟩
  ·exact ⟨_,rfl⟩
  ·exact ⟨_,rfl⟩
 len:=rfl
 free:=fun j x e=>by
  match j,e with
  | 0,e=>cases e;exact ⟨0,rfl,rfl,rfl,rfl,fun c h=>h⟩
  | 1,e=>cases e;exact ⟨2,rfl,rfl,rfl,rfl,fun c h=>h⟩
  | 2,e=>cases e;exact ⟨3,rfl,rfl,rfl,rfl,fun c h=>h⟩
  | j+3,e=>exact absurd e (by rw [List.getElem?_eq_none (by show 6≤3+(j+3);lia)];exact nofun)
abbrev GsIn (H:Hp):List Addr→List Gd→Prop:=Paired fun a p=>H a=some (.tup [.int p.1,.int p.2])
def GsAt (K:kn) (H:Hp) (g:Addr) (gs:List Gd):Prop:=∃as,SqT K H g (as.map V.ref)∧GsIn H as gs
abbrev Sta:=Int × List Gd
def StA (K:kn) (H:Hp) (a:Addr) (s:Sta):Prop:=∃g,SqT K H a [.int s.1,.ref g]∧GsAt K H g s.2
theorem GsIn.same {H H':Hp} {as:List Addr} {gs:List Gd} (h:GsIn H as gs) (s:Same H H'):GsIn H' as gs:=Paired.mapP h fun _ _ e=>s _ _ e
theorem GsAt.same {K:kn} {H H':Hp} {g:Addr} {gs:List Gd} (h:GsAt K H g gs) (s:Same H H'):GsAt K H' g gs:=let ⟨as,h1,h2⟩:=h;⟨as,Zz s h1,h2.same s⟩
theorem StA.same {K:kn} {H H':Hp} {a:Addr} {st:Sta} (h:StA K H a st) (s:Same H H'):StA K H' a st:=let ⟨g,h1,h2⟩:=h;⟨g,Zz s h1,h2.same s⟩
theorem GsIn.append {H:Hp} {as bs:List Addr} {gs hs:List Gd} (h:GsIn H as gs) (k:GsIn H bs hs):GsIn H (as++bs) (gs++hs):=z1V h k
theorem GsIn.dropLast {H:Hp} {as:List Addr} {gs:List Gd} (h:GsIn H as gs):GsIn H as.dropLast gs.dropLast:=by
 induction h with
 | nil=>exact .nil
 | cons h t ih=>
  cases t with
  | nil=>exact .nil
  | cons h2 t=>exact .cons h ih
theorem GsIn.last {H:Hp} {as:List Addr} {gs:List Gd} (h:GsIn H as gs):(as=[]∧gs=[])∨∃bs a g,as=bs++[a]∧gs.getLast?=some g∧H a=some (.tup [.int g.1,.int g.2]):=by
 induction h with
 | nil=>exact .inl ⟨rfl,rfl⟩
 | @cons a g as gs h t ih=>
  rcases ih with ⟨rfl,rfl⟩ | ⟨bs,a',g',e1,e2,e3⟩
  ·exact .inr ⟨[],a,g,rfl,rfl,h⟩
  ·refine .inr ⟨a :: bs,a',g',by rw [e1];rfl,?_,e3⟩
   cases gs with
   | nil=>cases e2
   | cons x y=>rw [List.getLast?_cons_cons];exact e2
section
variable {X:Cx}
def z9o (K:kn):R2:=fun x y H Q=>∃a b xs ys,x=.ref a∧y=.ref b∧SqT K H a xs∧SqT K H b ys∧ys≠[]∧xs.length+ys.length≤sizeLine∧(xs=[]→Q (.ref b) H)∧(xs≠[]→∀p,H p=none→Q (.ref p) (upd H p (.tup (xs++ys))))
theorem z79:OpR X (binaryOp .Add) (z9o X.K):=by
 intro pins s σ H x y v u Q I rx ry h
 obtain ⟨a,b,xs,ys,rfl,rfl,ha,hb,hy,hz,q1,q2⟩:=h
 by_cases hx:xs=[]
 ·subst hx
  cases rx
  cases ry
  obtain ⟨its,r1,ht,_⟩:=I.tuple ha
  obtain ⟨its2,r2,ht2,_⟩:=I.tuple hb
  cases r1
  obtain ⟨⟨cls,dd,data,sl⟩,ho,hc,n,hd⟩:=id ht
  obtain ⟨⟨cls2,dd2,data2,sl2⟩,ho2,hc2,n2,hd2⟩:=id ht2
  simp only at hc hd hc2 hd2
  subst hc hd hc2 hd2
  exact concat_meets ⟨_,ho,rfl⟩ ⟨_,ho2,rfl⟩ noFill_tuple_add seq_tuple_add PySem.F.slot_tuple_add PySem.F.entry_tuple_add (PySem.F.args_tuple_add_2 _ _)
   (tuple_addW0 a b _ _ n n2 dd dd2 sl sl2 (by simp)) ⟨ho,ho2,.ref b,H,I,rfl,q1 rfl⟩
 ·exact z41 pins s σ H _ _ v u Q I rx ry ⟨a,b,xs,ys,rfl,rfl,ha,hb,hx,hz,fun z=>absurd z hy,fun _=>q2 hx⟩
theorem z6n {A:Around} {s:Shared} {l b:Addr} {vs ws:List Value} (hl:s.heap.IsTuple l vs.toArray) (hb:s.heap.IsTuple b ws.toArray) (hn:vs.length=ws.length) (hu:A.units < cLine)
  (he:∀j (h1:j < vs.length) (h2:j < ws.length),SeqAt.EqAt A.in1 s vs[j] ws[j] true):SeqAt.EqAt A s (.ref l) (.ref b) true:=by
 by_cases z:l=b
 ·subst z;exact SeqAt.EqAt.same _
 ·refine SeqAt.EqAt.of_refs z ?_
  have:=SeqAt.RcAt.tuples (e:=fun _=>true) hl hb hu (fun j h1 h2=>by
   have:=he j (by simpa using h1) (by simpa using h2)
   simpa using this)
  have e:((List.range (min vs.toArray.size ws.toArray.size)).all (fun _=>true)&&vs.toArray.size == ws.toArray.size)=true:=by simp [hn]
  rw [e] at this
  exact this
theorem z3e:∀{xs:List V} {vs ws:List Value} {A:Around} {s:Shared},Vals xs vs→Vals xs ws→(∀x∈xs,Zk x=true∧eqV x x=true)→∀j (h1:j < vs.length) (h2:j < ws.length),SeqAt.EqAt A s vs[j] ws[j] true
 | _,_,_,_,_,.nil,.nil,_,j,h1,_=>absurd h1 (Nat.not_lt_zero _)
 | x :: xs,_,_,A,s,.cons r t,.cons r' t',h,0,_,_=>by
  have e:=z4z (A:=A) (s:=s) r r' (h x (kK ..)).1 (h x (kK ..)).1
  rw [(h x (kK ..)).2] at e
  exact e
 | x :: xs,_,_,A,s,.cons r t,.cons r' t',h,j+1,h1,h2=>z3e t t' (fun y hy=>h y (kL _ hy)) j (by simpa using h1) (by simpa using h2)
theorem z5I {pins:List (Addr × Obj)} {σ:L2.St} {H:Hp} {s:Shared} {A:Around} {a b:Addr} {g:Gd} (I:Inv X pins σ H s) (ha:H a=some (.tup [.int g.1,.int g.2])) (hb:H b=some (.tup [.int g.1,.int g.2])) (hu:A.units < cLine):SeqAt.EqAt A s (.ref a) (.ref b) true:=by
 obtain ⟨vs,r1,t1,_⟩:=I.tuple (SqT.of ha)
 obtain ⟨ws,r2,t2,_⟩:=I.tuple (SqT.of hb)
 exact z6n t1 t2 (by rw [←r1.length,←r2.length]) hu fun j h1 h2=>z3e r1 r2 (fun x hx=>by
  rcases kw.mp hx with rfl | hx
  ·exact ⟨rfl,by show (g.1 == g.1)=true;simp⟩
  ·rw [kj.mp hx];exact ⟨rfl,by show (g.2 == g.2)=true;simp⟩) j h1 h2
theorem z0I {pins:List (Addr × Obj)} {σ:L2.St} {H:Hp} {s:Shared} {A:Around} (I:Inv X pins σ H s) (hu:A.units < cLine):∀{as bs:List Addr} {gs:List Gd} {vs ws:List Value},GsIn H as gs→GsIn H bs gs→Vals (as.map V.ref) vs→Vals (bs.map V.ref) ws→∀j (h1:j < vs.length) (h2:j < ws.length),SeqAt.EqAt A s vs[j] ws[j] true
 | _,_,_,_,_,.nil,.nil,.nil,.nil,j,h1,_=>absurd h1 (Nat.not_lt_zero _)
 | _,_,_,_,_,.cons h t,.cons h' t',.cons r rr,.cons r' rr',0,_,_=>by
  cases r
  cases r'
  exact z5I I h h' hu
 | _,_,_,_,_,.cons h t,.cons h' t',.cons r rr,.cons r' rr',j+1,h1,h2=>z0I I hu t t' rr rr' j (by simpa using h1) (by simpa using h2)
theorem z9y {pins:List (Addr × Obj)} {σ:L2.St} {H:Hp} {s:Shared} {A:Around} {a b:Addr} {gs:List Gd} (I:Inv X pins σ H s) (ha:GsAt X.K H a gs) (hb:GsAt X.K H b gs) (hu:A.units+1 < cLine):SeqAt.EqAt A s (.ref a) (.ref b) true:=by
 obtain ⟨as,h1,h2⟩:=ha
 obtain ⟨bs,h3,h4⟩:=hb
 obtain ⟨vs,r1,t1,_⟩:=I.tuple h1
 obtain ⟨ws,r2,t2,_⟩:=I.tuple h3
 have e1:=Paired.length h2
 have e2:=Paired.length h4
 refine z6n t1 t2 ?_ (by lia) (z0I I (by show A.units+1 < cLine;exact hu) h2 h4 r1 r2)
 rw [←r1.length,←r2.length,kg,kg,e1,e2]
def z9m (K:kn):R2:=fun x y H Q=>∃a b st,x=.ref a∧y=.ref b∧StA K H a st∧StA K H b st∧Q (.bl false) H
theorem z77 (hu:X.A.units+3 < cLine):OpR X (compareOp .NotEq) (z9m X.K):=by
 intro pins s σ H x y v u Q I rx ry h
 obtain ⟨a,b,st,rfl,rfl,⟨g,h1,h2⟩,⟨g',h3,h4⟩,q⟩:=h
 cases rx
 cases ry
 obtain ⟨vs,r1,t1,_⟩:=I.tuple h1
 obtain ⟨ws,r2,t2,_⟩:=I.tuple h3
 have e:(!((List.range (min vs.toArray.size ws.toArray.size)).all (fun _=>true)&&vs.toArray.size == ws.toArray.size))=false:=by
  have z1:=r1.length
  have z2:=r2.length
  have z:vs.length=ws.length:=z1.symm.trans z2
  simp only [kx]
  rw [z]
  simp
 refine SeqAt.RcNeAt.tuples (e:=fun _=>true) t1 t2 (by lia) (fun j j1 j2=>?_) X.prog X.w X.xe _ ⟨.bl _,H,I,rfl,by rw [e];exact q⟩
 cases r1 with
 | cons ra rb=>
  cases r2 with
  | cons rc rd=>
   cases rb with
   | cons re rf=>
    cases rd with
    | cons rg rh=>
     cases rf
     cases rh
     match j,j1,j2 with
     | 0,_,_=>
      have e:=z4z (A:=X.A.in1) (s:=s) ra rc rfl rfl
      rw [show eqV (V.int st.1) (V.int st.1)=true by show (st.1 == st.1)=true;simp] at e
      exact e
     | 1,_,_=>
      cases re
      cases rg
      exact z9y I h2 h4 (by show X.A.units+1+1 < cLine;lia)
     | j+2,j1,_=>exact absurd j1 (by simp)
end
noncomputable def qC (r:Row) (d:Int) (gs:List Gd) (more:Int):List Gd:=if more=1 then gs++[(argM r.arg,d)] else if more= -1 then gs.dropLast else gs
section
def spGb (K:kn):Sp:=fun vs H Q _=>∃ra st r d g gs more,vs=[.ref ra,.ref st,.int more]∧H ra=some (.tup (tupV r))∧SqT K H st [.int d,.ref g]∧GsAt K H g gs∧gs.length≤1000∧(more=1→∃m,r.arg=.int m)∧(more= -1→gs≠[])∧
 ∀g' H',Same H H'→GsAt K H' g' (qC r d gs more)→Q (.ref g') H'
theorem sc49:zn ["row","state","more","depth","guards"] ["row","state","more"] (ze (top 49)):=fsM
theorem z64 {α:Type} (xs:List V) (h:xs≠[]):cutV xs none (some (-1))=xs.dropLast∧¬(HT.sIx xs.length 0 none=0∧HT.sIx xs.length xs.length (some (-1))=xs.length):=by
 have hp:0 < xs.length:=List.length_pos_iff.mpr h
 have e:HT.sIx xs.length xs.length (some (-1))=xs.length - 1:=by
  show (if (-1:Int) < 0 then ((-1:Int)+(xs.length:Int)).toNat else min (-1:Int).toNat xs.length)=_
  rw [kq (by decide)]
  lia
 refine ⟨?_,fun z=>by rw [e] at z;lia⟩
 unfold cutV
 rw [e]
 show (xs.drop 0).take (xs.length - 1 - 0)=_
 rw [List.drop_zero,Nat.sub_zero,List.dropLast_eq_take]
theorem z9G (D:zt K mg "guards_behind" (top 49)):FN P w K mg base 1 "guards_behind" ["row","state","more"] (spGb K):=by
 refine FN.o D sc49 fun f cdv A outer s H vs Q E hr h=>?_
 obtain ⟨ra,st,r,d,g,gs,more,rfl,har,hst,⟨as,hga,hgs⟩,hz,h1,h2,q⟩:=h
 refine ⟨_,z8 (jW (pv 1) (jX rfl (zD (zB (i:=3) sc49.nd rfl (Or.inl rfl)) (zD (zB (i:=4) sc49.nd rfl (Or.inl rfl)) qY))))
  (z8 (zH (zk qe (pv 2) zc (zo _)) (zd (zm (zG z79 (pv 4) (zF (z6 (zF (z6 (zx zS (pv 0) zc (fun _ _=>rfl)) (z6 (pv 3) z7))) z7))))) zu)
  (zd (zm (j6 (zk qe (pv 2) (JH Zw zc) (zo _)) (ZE z8c (pv 4) z1n (Zr (JH Zw zc))) (pv 4))))),?_⟩
 refine ⟨_,rfl,st,_,rfl,hst,rfl,_,_,rfl,_,_,rfl,rfl,?_⟩
 refine ⟨_,rfl,rfl,_,rfl,?_⟩
 have hal:as.length=gs.length:=Paired.length hgs
 unfold qC at q
 refine ite2 (fun c=>?_) (fun c=>?_)
 ·have e:more=1:=by have:=ku c;injection this
  obtain ⟨m,em⟩:=h1 e
  rw [kq e,em] at q
  refine ⟨_,rfl,_,rfl,ra,_,_,_,rfl,rfl,SqT.of har,zi (j:=1) rfl,_,rfl,by show 2≤sizeLine;decide,fun p hp=>⟨by show 1≤sizeLine;decide,fun p2 hp2=>?_⟩⟩
  have s1:=zg hp (.tup [r.arg,.int d])
  have s2:=zg hp2 (.tup [.ref p])
  have hp':(upd (upd H p (.tup [r.arg,.int d])) p2 (.tup [.ref p])) p=some (.tup [.int (argM (.int m)),.int d]):=by
   rw [←em]
   have:=s2 _ _ (zb (H:=H) (a:=p) (o:=.tup [r.arg,.int d]))
   rw [this,em]
   rfl
  have s12:=s1.trans s2
  refine ⟨g,p2,as.map V.ref,[.ref p],rfl,rfl,Zz s12 hga,SqT.of zb,nofun,by rw [kg];show as.length+1≤_;rw [sizeLine_eq];lia,fun z=>?_,fun z p3 hp3=>?_⟩
  ·have za:as=[]:=by simpa using z
   subst za
   cases hgs
   exact q p2 _ s12 ⟨[p],SqT.of zb,.cons hp' .nil⟩
  ·have s3:=zg hp3 (.tup (as.map V.ref++[.ref p]))
   exact q p3 _ (s12.trans s3) ⟨as++[p],SqT.of (by rw [kE];exact zb),((hgs.same s12).same s3).append (.cons (s3 _ _ hp') .nil)⟩
 ·have e:¬more=1:=fun z=>c (by rw [z];rfl)
  rw [ko e] at q
  refine ⟨_,rfl,1,rfl,rfl,_,rfl,?_⟩
  refine ite2 (fun c2=>?_) (fun c2=>?_)
  ·have e2:more= -1:=by have:=ku c2;injection this
   rw [kq e2] at q
   have hne:as.map V.ref≠[]:=fun z=>h2 e2 (by
    have za:as=[]:=by simpa using z
    rw [za] at hal
    exact List.length_eq_zero_iff.mp hal.symm)
   obtain ⟨k1,k2⟩:=z64 (α:=V) _ hne
   refine ⟨_,rfl,1,rfl,-1,rfl,g,_,rfl,hga,k2,fun p hp=>?_⟩
   rw [k1]
   have s1:=zg hp (.tup (as.map V.ref).dropLast)
   refine q p _ s1 ⟨as.dropLast,SqT.of (by rw [List.map_dropLast];exact zb),(hgs.dropLast).same s1⟩
  ·have e2:¬more= -1:=fun z=>c2 (by rw [z];rfl)
   rw [ko e2] at q
   exact ⟨_,rfl,q g H (Same.refl _) ⟨as,hga,hgs⟩⟩
end
noncomputable def isT:HO→Bool
 | .tup _=>true
 | .frz _ _=>true
 | _=>false
def qZ (H H':Hp):Prop:=∀b o,H b=some o→isT o=true→H' b=some o
theorem qZ.trans {H H1 H2:Hp} (a:qZ H H1) (b:qZ H1 H2):qZ H H2:=fun c o h t=>b c o (a c o h t) t
theorem qZ.of {H H':Hp} (s:Same H H'):qZ H H':=fun b o h _=>s b o h
theorem qZ.upd {H:Hp} {l:Addr} {o u:HO} (h:H l=some u) (hu:isT u=false):qZ H (upd H l o):=fun b x e t=>by
 rw [zl (fun z=>by rw [z,h] at e;cases e;rw [hu] at t;cases t)];exact e
theorem z0h {K:kn} {H H':Hp} {a:Addr} {xs:List V} (s:qZ H H') (h:SqT K H a xs):SqT K H' a xs:=by
 rcases h with (h | ⟨o,h⟩) | h
 ·exact .inl (.inl (s _ _ h rfl))
 ·exact .inl (.inr ⟨o,s _ _ h rfl⟩)
 ·exact .inr h
theorem GsIn.keep {H H':Hp} {as:List Addr} {gs:List Gd} (h:GsIn H as gs) (s:qZ H H'):GsIn H' as gs:=Paired.mapP h fun _ _ e=>s _ _ e rfl
theorem GsAt.keep {K:kn} {H H':Hp} {g:Addr} {gs:List Gd} (h:GsAt K H g gs) (s:qZ H H'):GsAt K H' g gs:=let ⟨as,h1,h2⟩:=h;⟨as,z0h s h1,h2.keep s⟩
theorem StA.keep {K:kn} {H H':Hp} {a:Addr} {st:Sta} (h:StA K H a st) (s:qZ H H'):StA K H' a st:=let ⟨g,h1,h2⟩:=h;⟨g,z0h s h1,h2.keep s⟩
abbrev NxIn (K:kn) (H:Hp):List Addr→List (V × Sta)→Prop:=Paired fun t n=>∃a,H t=some (.tup [n.1,.ref a])∧StA K H a n.2
theorem NxIn.keep {K:kn} {H H':Hp} {ts:List Addr} {ns:List (V × Sta)} (h:NxIn K H ts ns) (s:qZ H H'):NxIn K H' ts ns:=Paired.mapP h fun _ _ z=>z.elim fun a q=>⟨a,s _ _ q.1 rfl,q.2.keep s⟩
theorem NxIn.append {K:kn} {H:Hp} {as bs:List Addr} {gs hs:List (V × Sta)} (h:NxIn K H as gs) (k:NxIn K H bs hs):NxIn K H (as++bs) (gs++hs):=z1V h k
theorem NxIn.get {K:kn} {H:Hp} {as:List Addr} {rs:List (V × Sta)} {i:Nat} {x:V} (h:NxIn K H as rs) (e:(as.map V.ref)[i]?=some x):∃t n a,x=.ref t∧rs[i]?=some n∧H t=some (.tup [n.1,.ref a])∧StA K H a n.2:=by
 obtain ⟨t,n,h1,h2,a,h3⟩:=z3N h e
 exact ⟨t,n,a,h1,h2,h3⟩
noncomputable def QY (rs:List Row) (place:Nat) (r:Row) (st:Sta):List (V × Sta):=(ja rs place r st.1 st.2.getLast?).map fun m=>(m.1,(m.2.1,qC r st.1 st.2 m.2.2))
theorem z5J {x:Str} (h:tabI qD x=1):x="try":=by
 unfold tabI at h
 cases e:qD.lookup x with
 | none=>rw [e] at h;cases h
 | some v=>
  have hm:=PySem.mem_of_lookup e
  rw [e] at h
  simp only [qD,kw,Prod.mk.injEq,kl,or_false] at hm
  rcases hm with ⟨z,_⟩ | ⟨_,z⟩
  ·exact z
  ·rw [z] at h;cases h
theorem z5K {x:Str} (h:tabI qD x= -1):x="endtry":=by
 unfold tabI at h
 cases e:qD.lookup x with
 | none=>rw [e] at h;cases h
 | some v=>
  have hm:=PySem.mem_of_lookup e
  rw [e] at h
  simp only [qD,kw,Prod.mk.injEq,kl,or_false] at hm
  rcases hm with ⟨_,z⟩ | ⟨z,_⟩
  ·rw [z] at h;cases h
  ·exact z
theorem z2G {rs:List Row} {place:Nat} {r:Row} {d:Int} {gs:List Gd} (hok:Qo r):∀m∈ja rs place r d gs.getLast?,(m.2.2=1→∃k,r.arg=.int k)∧(m.2.2= -1→gs≠[]):=by
 intro m hm
 unfold ja at hm
 split at hm
 ·cases hm
 ·split at hm
  ·cases hm
  ·rename_i _ hG
   rcases kM.mp hm with hm | hm
   ·rcases kM.mp hm with hm | hm
    ·unfold mv1 at hm
     split at hm
     ·cases hm
     ·rw [kj.mp hm]
      refine ⟨fun h=>?_,fun h=>?_⟩
      ·have e:=z5J h
       obtain ⟨s,hs,hfit,_⟩:=hok.parts
       rw [e,show zR "try"=some ("mark":Str) by trivial] at hs
       cases hs
       obtain ⟨k,hk,_⟩:=ZH hfit
       exact ⟨k,hk⟩
      ·have e:=z5K h
       intro z
       subst z
       exact hG (by unfold Q5;rw [e];decide)
    ·unfold mv2 at hm
     split at hm
     ·rw [kj.mp hm]
      exact ⟨fun h=>absurd (show (0:Int)=1 from h) (by decide),fun h=>absurd (show (0:Int)= -1 from h) (by decide)⟩
     ·cases hm
   ·unfold mv3 at hm
    split at hm
    ·cases e:gs.getLast? with
     | none=>rw [e] at hm;cases hm
     | some g=>
      rw [e] at hm
      rw [kj.mp hm]
      refine ⟨fun h=>absurd (show (-1:Int)=1 from h) (by decide),fun _ z=>?_⟩
      subst z
      cases e
    ·cases hm
theorem z5E {X:Cx} {K:kn} (hK:X.K=K):IxR X (rIxL K):=by subst hK;exact zr
theorem z0x (rs:List Row) (place:Nat) (r:Row) (d:Int) (og:Option Gd):(ja rs place r d og).length≤3:=by
 unfold ja mv1 mv2 mv3
 repeat' split
 all_goals simp
theorem nd52:N52.Nodup:=by trivial
section
theorem GsAt.guardV {H:Hp} {g:Addr} {gs:List Gd} (h:GsAt K H g gs):∃as:List Addr,SqT K H g (as.map V.ref)∧((as=[]∧Z9 H .non gs.getLast?)∨∃bs a,as=bs++[a]∧Z9 H (.ref a) gs.getLast?):=by
 obtain ⟨as,h1,h2⟩:=h
 refine ⟨as,h1,?_⟩
 rcases h2.last with ⟨e1,e2⟩ | ⟨bs,a,g',e1,e2,e3⟩
 ·exact .inl ⟨e1,by rw [e2];rfl⟩
 ·exact .inr ⟨bs,a,e1,by rw [e2];exact ⟨a,rfl,e3⟩⟩
def z6T (K:kn):Sp:=fun vs H Q _=>∃(g:Addr) (gs:List Gd),vs=[.ref g]∧GsAt K H g gs∧∀gv,Z9 H gv gs.getLast?→Q gv H
theorem up2 (F:FN P w K mg base 1 "uppermost" ["guards"] (spUp K)):FN P w K mg base 1 "uppermost" ["guards"] (z6T K):=F.imp fun vs H Q E ⟨g,gs,e,h,q⟩=>by
 obtain ⟨as,h1,h2⟩:=h.guardV
 refine ⟨g,as,e,h1,?_⟩
 rcases h2 with ⟨a,b⟩ | ⟨bs,a,e1,b⟩
 ·exact .inl ⟨a,q _ b⟩
 ·exact .inr ⟨bs,a,e1,q _ b⟩
def z1Q (K:kn):Sp:=fun vs H Q _=>∃l d place sa st rs r,vs=[.ref l,.ref d,.int (place:Nat),.ref sa]∧z18 K H l d rs∧rs[place]?=some r∧StA K H sa st∧st.2.length≤1000∧
 ∀f ts H',Same H H'→H f=none→H' f=some (.lst (ts.map V.ref))→NxIn K H' ts (QY rs place r st)→Q (.ref f) H'
theorem z7u (D:zt K mg "next_states" (top 50)) (FU:FN P w K mg base 1 "uppermost" ["guards"] (z6T K)) (FM:FN P w K mg base 3 "moves" ["code","labels","place","depth","guard"] (z1d K)) (FB:FN P w K mg base 1 "guards_behind" ["row","state","more"] (spGb K)):
  FN P w K mg base 4 "next_states" ["code","labels","place","state"] (z1Q K):=by
 refine FN.o D sc50 fun f cdv A outer s H vs Q E hr h=>?_
 obtain ⟨l,d,place,sa,st,rs,r,rfl,hC,hrp,⟨g,hsa,hgs⟩,hz,q⟩:=h
 have hr1:=hr.mono (show 1≤3 by decide)
 refine ⟨_,z8 (jW (pv 3) (jX rfl (zD (zB (i:=4) sc50.nd rfl (Or.inl rfl)) (zD (zB (i:=5) sc50.nd rfl (Or.inl rfl)) qY))))
  (zd (zm (JI (N:=N52) (nt:=3) (ix:=[0,2,3]) (cl:=cl52 s.heap.objs.size) rfl cs52 (ZZ (zp FM hr rfl (z6 (pv 0) (z6 (pv 1) (z6 (pv 2) (z6 (pv 4) (z6 (zp FU hr1 rfl (z6 (pv 5) z7)) z7)))))))
   (fun _ _ _ _=>z1p (K:=K) (n:=3) rfl rfl (zD (zB (i:=0) nd52 rfl (Or.inl rfl)) (zD (zB (i:=1) nd52 rfl (Or.inl rfl)) (zD (zB (i:=2) nd52 rfl (Or.inl rfl)) qY))))
   (fun _ _ _ _=>QQ)
   (fun _ _ _ _=>zF (z6 (pv 0) (z6 (zF (z6 (pv 1) (z6 (zp FB hr1 rfl (z6 (zx (z5E (K:=K) rfl) (pv 3) (pv 4) (fun _ _=>rfl)) (z6 (pv 5) (z6 (pv 2) z7)))) z7))) z7)))))),?_⟩
 refine ⟨_,rfl,sa,_,rfl,hsa,rfl,_,_,rfl,_,_,rfl,rfl,?_⟩
 refine ⟨_,rfl,_,rfl,_,rfl,_,rfl,_,rfl,g,st.2,rfl,hgs,fun gv hgv=>?_⟩
 refine ⟨l,d,place,st.1,gv,_,rs,r,rfl,hC,hrp,hgv,fun ml ts H1 s1 hn1 hm1 hM1=>?_⟩
 obtain ⟨⟨as,hS,hR⟩,hc,_⟩:=id hC
 have hro:=hc.ok r (kz hrp)
 have hmm:=z2G (rs:=rs) (place:=place) (d:=st.1) (gs:=st.2) hro
 have hlen:=z0x rs place r st.1 st.2.getLast?
 unfold QY at q
 generalize hms:ja rs place r st.1 st.2.getLast?=ms at hM1 hmm hlen q
 refine ⟨ml,rfl,⟨_,SqL.of hm1⟩,fun nl hnl=>Q7 (K:=K) (a:=ml) (xs:=ts.map V.ref) (fun i ys σ H2=>(∃a b c,σ=[a,b,c,some (.ref l),some (.int (place:Nat)),some (.ref sa)])∧
   ∃us:List Addr,ys=us.map V.ref∧NxIn K H2 us ((ms.take i).map fun m=>(m.1,(m.2.1,qC r st.1 st.2 m.2.2)))∧Same H1 H2∧H2 nl=some (.lst ys))
  ⟨⟨none,none,none,rfl⟩,[],rfl,.nil,zg hnl _,zb⟩ (fun i ys σ H2 _ ⟨_,_,_,_,s2,_⟩=>s2.seq (SqL.of hm1)) ?_ ?_⟩
 ·rintro i x ys σ H2 hi ⟨⟨a,b,c,rfl⟩,us,rfl,hN,s2,hp2⟩
  obtain ⟨t,m,rfl,hm,ht⟩:=(hM1.same fun a xs e=>s2 _ _ e).get hi
  have hil:i < ts.length:=by have:=(kd.mp hi).1;simpa using this
  have hml:ts.length=ms.length:=Paired.length hM1
  have hul:us.length=(ms.take i).length:=by have:=Paired.length hN;simpa using this
  have sH:=s1.trans s2
  obtain ⟨ra,hra,har⟩:=hR.get' hrp
  obtain ⟨mm1,mm2⟩:=hmm m (kz hm)
  refine ⟨t,_,rfl,SqT.of ht,rfl,_,_,rfl,_,_,rfl,_,_,rfl,rfl,?_⟩
  refine QI ⟨_,rfl,_,rfl,_,rfl,_,rfl,l,_,_,_,rfl,rfl,sH.seq hS,zi hra,_,rfl,_,rfl,ra,sa,r,st.1,g,st.2,m.2.2,rfl,sH _ _ har,Zz sH hsa,hgs.same sH,hz,mm1,mm2,fun g' H3 s3 hg'=>?_⟩
  refine ⟨by show 2≤sizeLine;decide,fun p1 hp1=>⟨by show 2≤sizeLine;decide,fun p2 hp2'=>?_⟩⟩
  have t1:=zg hp1 (.tup [.int m.2.1,.ref g'])
  have t2:=zg hp2' (.tup [m.1,.ref p1])
  have t12:=t1.trans t2
  have sE:=s3.trans t12
  have hnl5:=sE _ _ hp2
  refine ⟨hnl5,?_,_,by rw [kg];lia,rfl,by rw [kg];lia,⟨_,_,_,rfl⟩,us++[p2],by rw [kE];rfl,?_,?_,zb⟩
  ·rw [kg,hul,List.length_take]
   exact qh (by lia)
  ·rw [jL hm,kE]
   have kT:=qZ.upd (o:=.lst (us.map V.ref++[.ref p2])) hnl5 rfl
   refine NxIn.append ((hN.keep (qZ.of sE)).keep kT) (.cons ⟨p1,kT _ _ zb rfl,StA.keep ⟨g',SqT.of (t2 _ _ zb),hg'.same t12⟩ kT⟩ .nil)
  ·exact fun b o e=>by rw [zl (zh e hnl)];exact sE _ _ (s2 _ _ e)
 ·rintro ys σ H2 ⟨_,us,rfl,hN,s2,hp2⟩
  have hml:ts.length=ms.length:=Paired.length hM1
  rw [kg,hml,List.take_length] at hN
  exact q nl us H2 (s1.trans s2) (s1.free hnl) hp2 hN
def spSw (K:kn):Sp:=fun vs H Q _=>∃l d place sa st rs r,vs=[.ref l,.ref d,.int (place:Nat),.ref sa]∧z18 K H l d rs∧rs[place]?=some r∧StA K H sa st∧
 ∀f H',Same H H'→H f=none→H' f=some (.lst ((QE rs place r st.1 st.2.getLast?).map V.str))→Q (.ref f) H'
theorem sc51:zn ["code","labels","place","state"] ["code","labels","place","state"] (ze (top 51)):=fsM
theorem z9D (D:zt K mg "state_words" (top 51)) (FU:FN P w K mg base 1 "uppermost" ["guards"] (z6T K)) (FW:FN P w K mg base 4 "words_lacking" ["code","labels","place","depth","guard"] (z3p K)):FN P w K mg base 5 "state_words" ["code","labels","place","state"] (spSw K):=by
 refine FN.o D sc51 fun f cdv A outer s H vs Q E hr h=>?_
 obtain ⟨l,d,place,sa,st,rs,r,rfl,hC,hrp,⟨g,hsa,hgs⟩,q⟩:=h
 refine ⟨_,zd (zm (zp FW hr rfl (z6 (pv 0) (z6 (pv 1) (z6 (pv 2) (z6 (zx zS (pv 3) zc (fun _ _=>rfl)) (z6 (zp FU (hr.mono (by decide)) rfl (z6 (zx zS (pv 3) zc (fun _ _=>rfl)) z7)) z7))))))),?_⟩
 refine ⟨_,rfl,_,rfl,_,rfl,_,rfl,sa,_,_,_,rfl,rfl,hsa,zi (j:=0) rfl,_,rfl,sa,_,_,_,rfl,rfl,hsa,zi (j:=1) rfl,g,st.2,rfl,hgs,fun gv hgv=>?_⟩
 exact ⟨l,d,place,st.1,gv,_,rs,r,rfl,hC,hrp,hgv,q⟩
end
abbrev Fnd:=List (Option Sta)
noncomputable def Je:List (V × Sta)→Fnd→List Nat→Option (Fnd × List Nat)
 | [],f,w=>some (f,w)
 | (x,s) :: r,f,w=>match x with
  | .int j=>if 0≤j then (match f[j.toNat]? with
   | some none=>Je r (f.set j.toNat (some s)) (w++[j.toNat])
   | some (some s')=>if s'=s then Je r f w else none
   | none=>none) else none
  | _=>none
noncomputable def bfs (rs:List Row):Nat→Fnd→List Nat→Option Fnd
 | _,f,[]=>some f
 | 0,_,_ :: _=>none
 | n+1,f,p :: w=>match rs[p]?,f[p]? with
  | some r,some (some s)=>if (QE rs p r s.1 s.2.getLast?).isEmpty=true∧s.2.length≤1000 then (match Je (QY rs p r s) f w with
   | some (f',w')=>bfs rs n f' w'
   | none=>none) else none
  | _,_=>none
noncomputable def ZW (rs:List Row):Option Fnd:=bfs rs 300 ((List.replicate rs.length none).set 0 (some (0,[]))) [0]
abbrev qJ (K:kn) (H:Hp):List V→Fnd→Prop:=Paired fun x o=>match o with
 | none=>x=.non
 | some st=>∃a,x=.ref a∧StA K H a st
theorem qJ.keep {K:kn} {H H':Hp} {xs:List V} {os:Fnd} (h:qJ K H xs os) (s:qZ H H'):qJ K H' xs os:=Paired.mapP h fun _ o z=>by
 cases o with
 | none=>exact z
 | some st=>
  obtain ⟨a,h1,h2⟩:=z
  exact ⟨a,h1,h2.keep s⟩
theorem qJ.get {K:kn} {H:Hp} {xs:List V} {os:Fnd} {j:Nat} {o:Option Sta} (h:qJ K H xs os):os[j]?=some o→∃x,xs[j]?=some x∧(match o with | none=>x=.non | some st=>∃a,x=.ref a∧StA K H a st):=z8m h
theorem qJ.set {K:kn} {H:Hp} {a:Addr} {st:Sta} (hs:StA K H a st):∀{xs:List V} {os:Fnd} (j:Nat),qJ K H xs os→qJ K H (xs.set j (.ref a)) (os.set j (some st))
 | _,_,_,.nil=>.nil
 | _,_,0,.cons _ t=>.cons ⟨a,rfl,hs⟩ t
 | _,_,j+1,.cons h t=>.cons h (qJ.set hs j t)
theorem Js (K:kn) (H:Hp):∀n:Nat,qJ K H (List.replicate n V.non) (List.replicate n none)
 | 0=>.nil
 | n+1=>.cons rfl (Js K H n)
def z1K (H:Hp) (kvs:List (Key × V)) (f:Fnd) (B:Nat):Prop:=∀(p:Nat) st,f[p]?=some (some st)→∃t ns,valV kvs (Sum.inl (p:Int):Key)=some (.ref t)∧H t=some (.tup ns)∧ns≠[]∧ns.length≤B
theorem z1K.keep {H H':Hp} {kvs:List (Key × V)} {f:Fnd} {B:Nat} (h:z1K H kvs f B) (s:qZ H H'):z1K H' kvs f B:=fun p st e=>let ⟨t,ns,h1,h2,h3⟩:=h p st e;⟨t,ns,h1,s _ _ h2 rfl,h3⟩
theorem z1K.mono {H:Hp} {kvs:List (Key × V)} {f:Fnd} {B B':Nat} (h:z1K H kvs f B) (hb:B≤B'):z1K H kvs f B':=fun p st e=>let ⟨t,ns,h1,h2,h3,h4⟩:=h p st e;⟨t,ns,h1,h2,h3,km h4 hb⟩
structure Srch (K:kn) (H0 H:Hp) (d fl wd wl:Addr) (rs:List Row) (f:Fnd) (w:List Nat) (B C:Nat):Prop where
 same:Same H0 H
 labs:∃kvs,H d=some (.dK kvs)∧Jc kvs rs
 nf:H0 fl=none
 nw:H0 wd=none
 nl:H0 wl=none
 fnd:∃fvs,H fl=some (.lst fvs)∧qJ K H fvs f
 wks:∃kvs,H wd=some (.dK kvs)∧z1K H kvs f B∧kvs.length≤C
 wts:H wl=some (.lst (w.map fun p=>V.int (p:Nat)))
 wlen:w.length≤C
 flen:f.length=rs.length
 nd:d≠wd
 nfw:fl≠wl
theorem Srch.same' {K:kn} {H0 H H':Hp} {d fl wd wl:Addr} {rs:List Row} {f:Fnd} {w:List Nat} {B C:Nat} (h:Srch K H0 H d fl wd wl rs f w B C) (s:Same H H'):Srch K H0 H' d fl wd wl rs f w B C:=by
 obtain ⟨a1,⟨kv,b1,b2⟩,a3,a4,a5,⟨fvs,a6,a7⟩,⟨kvs,a8,a9,a10⟩,a11,a12,a13,a14,a15⟩:=h
 have kt:=qZ.of s
 exact ⟨a1.trans s,⟨kv,s _ _ b1,b2⟩,a3,a4,a5,⟨fvs,s _ _ a6,a7.keep kt⟩,⟨kvs,s _ _ a8,a9.keep kt,a10⟩,s _ _ a11,a12,a13,a14,a15⟩
theorem Srch.more {K:kn} {H0 H:Hp} {d fl wd wl:Addr} {rs:List Row} {f:Fnd} {w:List Nat} {B B' C C':Nat} (h:Srch K H0 H d fl wd wl rs f w B C) (hb:B≤B') (hc:C≤C'):Srch K H0 H d fl wd wl rs f w B' C':=by
 obtain ⟨a1,a2,a3,a4,a5,a6,⟨kvs,a8,a9,a10⟩,a11,a12,a13,a14,a15⟩:=h
 exact ⟨a1,a2,a3,a4,a5,a6,⟨kvs,a8,a9.mono hb,by lia⟩,a11,by lia,a13,a14,a15⟩
theorem Srch.code {K:kn} {H0 H:Hp} {l d fl wd wl:Addr} {as:List Addr} {rs:List Row} {f:Fnd} {w:List Nat} {B C:Nat} (h:Srch K H0 H d fl wd wl rs f w B C) (hS:SqL K H0 l (as.map V.ref)) (hR:zv H0 as rs) (hc:Code rs):z18 K H l d rs:=
 ⟨⟨as,h.same.seq hS,hR.same h.same⟩,hc,h.labs⟩
theorem Srch.pop {K:kn} {H0 H:Hp} {d fl wd wl:Addr} {rs:List Row} {f:Fnd} {p:Nat} {w:List Nat} {B C:Nat} (h:Srch K H0 H d fl wd wl rs f (p :: w) B C):Srch K H0 (upd H wl (.lst (w.map fun p=>V.int (p:Nat)))) d fl wd wl rs f w B C:=by
 obtain ⟨a1,⟨kv,b1,b2⟩,a3,a4,a5,⟨fvs,a6,a7⟩,⟨kvs,a8,a9,a10⟩,a11,a12,a13,a14,a15⟩:=h
 have kt:=qZ.upd (o:=.lst (w.map fun p=>V.int (p:Nat))) a11 rfl
 exact ⟨fun b o e=>by rw [zl (zh e a5)];exact a1 _ _ e,⟨kv,by rw [zl (jU b1 a11 nofun)];exact b1,b2⟩,a3,a4,a5,⟨fvs,by rw [zl a15];exact a6,a7.keep kt⟩,
  ⟨kvs,by rw [zl (jU a8 a11 nofun)];exact a8,a9.keep kt,a10⟩,zb,by simp at a12;lia,a13,a14,a15⟩
theorem Srch.put {K:kn} {H0 H:Hp} {d fl wd wl:Addr} {rs:List Row} {f:Fnd} {w:List Nat} {B C:Nat} (h:Srch K H0 H d fl wd wl rs f w B C) {j:Nat} {a t:Addr} {st:Sta} {ns fvs:List V} {kvs:List (Key × V)} (hf:H fl=some (.lst fvs)) (hw:H wd=some (.dK kvs))
  (hs:StA K H a st) (ht:H t=some (.tup ns)) (hn:ns≠[]) (hl:ns.length≤B) (hj:f[j]?=some none):
  Srch K H0 (upd (upd (upd H fl (.lst (fvs.set j (.ref a)))) wd (.dK (putK kvs (Sum.inl (j:Int)) (.ref t)))) wl (.lst ((w.map fun p=>V.int (p:Nat))++[V.int (j:Nat)]))) d fl wd wl rs (f.set j (some st)) (w++[j]) B (C+1):=by
 obtain ⟨a1,⟨kv,b1,b2⟩,a3,a4,a5,⟨fvs',a6,a7⟩,⟨kvs',a8,a9,a10⟩,a11,a12,a13,a14,a15⟩:=h
 rw [hf] at a6
 cases a6
 rw [hw] at a8
 cases a8
 have nwf:wd≠fl:=jU hw hf nofun
 have nwl:wd≠wl:=jU hw a11 nofun
 have k1:=qZ.upd (o:=.lst (fvs.set j (.ref a))) hf rfl
 have e2:(upd H fl (.lst (fvs.set j (.ref a)))) wd=some (.dK kvs):=by rw [zl nwf];exact hw
 have k2:=k1.trans (qZ.upd (o:=.dK (putK kvs (Sum.inl (j:Int)) (.ref t))) e2 rfl)
 have e3:(upd (upd H fl (.lst (fvs.set j (.ref a)))) wd (.dK (putK kvs (Sum.inl (j:Int)) (.ref t)))) wl=some (.lst (w.map fun p=>V.int (p:Nat))):=by rw [zl nwl.symm,zl a15.symm];exact a11
 have k3:=k2.trans (qZ.upd (o:=.lst ((w.map fun p=>V.int (p:Nat))++[V.int (j:Nat)])) e3 rfl)
 refine ⟨fun b o e=>by rw [zl (zh e a5),zl (zh e a4),zl (zh e a3)];exact a1 _ _ e,⟨kv,by rw [zl (jU b1 a11 nofun),zl a14,zl (jU b1 hf nofun)];exact b1,b2⟩,a3,a4,a5,
  ⟨_,by rw [zl a15,zl nwf.symm];exact zb,(a7.set hs j).keep k3⟩,⟨_,by rw [zl nwl];exact zb,fun p st' e=>?_,?_⟩,?_,by simp;lia,by simp [a13],a14,a15⟩
 ·rw [Jy]
  by_cases z:p=j
  ·subst z
   rw [kq rfl]
   exact ⟨t,ns,rfl,k3 _ _ ht rfl,hn,hl⟩
  ·rw [ko (fun y=>z (by injection y with y;lia))]
   rw [List.getElem?_set,ko (fun y=>z y.symm)] at e
   obtain ⟨t',ns',h1,h2,h3⟩:=a9 p st' e
   exact ⟨t',ns',h1,k3 _ _ h2 rfl,h3⟩
 ·have:=j4 kvs (Sum.inl (j:Int):Key) (V.ref t)
  lia
 ·rw [zb,kE]
  rfl
section
def Ji (K:kn):Sp:=fun vs H Q _=>∃l as rs fin,vs=[.ref l]∧SqL K H l (as.map V.ref)∧zv H as rs∧Code rs∧ZW rs=some fin∧
 ∀t fl fvs H',Same H H'→H t=none→H fl=none→H' t=some (.tup [.ref fl,.non])→H' fl=some (.lst fvs)→qJ K H' fvs fin→Q (.ref t) H'
theorem sc52:zn ["code","labels","found","walks","waiting","place","words","goal","state","walk"] ["code"] (ze (top 52)):=fsM
theorem pop0 {xs:List V} {y:V} {ys:List V} (h:xs=y :: ys):seqIndex? 0 xs.length=some 0∧xs[0]?=some y∧xs.eraseIdx 0=ys:=by
 subst h
 refine ⟨?_,rfl,rfl⟩
 unfold seqIndex?
 simp
noncomputable def st54:Stmt:=match (zV (top 52)).getD 5 (.Pass ⟨0,0,0,0⟩) with
 | .While _ b _ _=>b.getD 3 (.Pass ⟨0,0,0,0⟩)
 | s=>s
noncomputable abbrev N54:List Str:=["code","labels","found","walks","waiting","place","words","goal","state","walk"]
def z8g (K:kn) (H:Hp) (l:Addr) (rs:List Row):TS:=fun D σ H3=>∃(d fl wd wl:Addr) (p:Nat) (r:Row) (st:Sta) (n:Nat) (v6 v7 v8 v9:Option V) (fo:Fnd) (wa:List Nat) (foE:Fnd) (waE:List Nat),
 σ=[some (.ref l),some (.ref d),some (.ref fl),some (.ref wd),some (.ref wl),some (.int (p:Nat)),v6,v7,v8,v9]∧n≤299∧rs[p]?=some r∧fo[p]?=some (some st)∧st.2.length≤1000∧Je (QY rs p r st) fo wa=some (foE,waE)∧
 Srch K H H3 d fl wd wl rs fo wa (300 - n) (3 * (300 - n))∧∀σ' H',(∃v5 v6 v7 v8 v9,σ'=[some (.ref l),some (.ref d),some (.ref fl),some (.ref wd),some (.ref wl),v5,v6,v7,v8,v9])→Srch K H H' d fl wd wl rs foE waE (301 - n) (3 * (301 - n))→D.nx σ' H'
theorem z4B {α:Type} {l:List α} {i:Nat} {x:α} (h:l[i]?=some x):l.drop i=x :: l.drop (i+1):=by
 obtain ⟨hi,e⟩:=kd.mp h
 rw [←e]
 exact List.drop_eq_getElem_cons hi
theorem z9A {f:Addr} {cdv:Value} {A:Around} {outer:List Env} {s:Shared} {H:Hp} {E:XK} {l:Addr} {as:List Addr} {rs:List Row} (hr:Room 7 (A.deeper (envOfC "searched" (ze (top 52)) s.heap.objs.size f cdv)))
  (hS:SqL K H l (as.map V.ref)) (hR:zv H as rs) (hc:Code rs) (FN':FN P w K mg base 4 "next_states" ["code","labels","place","state"] (z1Q K)):
  PS (cxOf CX0 P w K mg base N54 "searched" (ze (top 52)) f cdv A outer s H E).nox st54 (z8g K H l rs):=by
 have hu:=z5F hr
 have hu3:(A.deeper (envOfC "searched" (ze (top 52)) s.heap.objs.size f cdv)).units+3 < cLine:=by have:=hr.un;lia
 have hr4:=hr.mono (show 4≤7 by decide)
 refine PS.imp (Z1 PassesOwn.never rfl (ZZ (zp FN' hr4 rfl (z6 (pv 0) (z6 (pv 1) (z6 (pv 5) (z6 (zx zr (pv 2) (pv 5) (fun _ _=>rfl)) z7))))))
    (jX rfl (zD (zB (i:=7) sc52.nd rfl (Or.inl rfl)) (zD (zB (i:=8) sc52.nd rfl (Or.inl rfl)) qY)))
    (z8 (zI (i:=9) sc52.nd rfl (Or.inl rfl) (zG z41 (z1q hu (pv 3) (pv 5) (fun _ _=>rfl)) (zF (z6 (pv 7) z7))))
    (zd (zH (zk QV (zx zr (pv 2) (pv 7) (fun _ _=>rfl)) qc (zo _))
     (z8 (jW (pv 8) (z1X (pv 2) (pv 7) Qv)) (z8 (z72 hu (pv 3) (pv 7) (pv 9) rfl) (zd (zj (Jo (pv 4) (z6 (pv 7) z7))))))
     (zd (zH (zk (z77 hu3) (zx zr (pv 2) (pv 7) (fun _ _=>rfl)) (pv 8) (zo _)) Z0 zu)))))) ?_
 rintro D σ H3 ⟨d,fl,wd,wl,p,r,st,n,v6,v7,v8,v9,fo,wa,foE,waE,rfl,hn,hrp,hfp,hz,hrel,S,k⟩
 obtain ⟨fvs,hfl2,hF⟩:=S.fnd
 obtain ⟨x,hx,hx2⟩:=hF.get hfp
 obtain ⟨sa,rfl,hsa⟩:=hx2
 refine ⟨_,rfl,_,rfl,_,rfl,_,rfl,_,rfl,fl,_,_,_,rfl,rfl,SqL.of hfl2,zi hx,l,d,p,sa,st,rs,r,rfl,S.code hS hR hc,hrp,hsa,hz,fun nl ts H4 s4 hn4 hnl4 hN4=>?_⟩
 have hnlen:(QY rs p r st).length≤3:=by unfold QY;rw [kg];exact z0x ..
 generalize QY rs p r st=ns at hrel hN4 hnlen
 have hts:ts.length=ns.length:=Paired.length hN4
 have S4:=S.same' s4
 obtain ⟨kvs,hwd,hW,hkl⟩:=S4.wks
 obtain ⟨tp,np,ht1,ht2,ht3,ht4⟩:=hW p st hfp
 refine ⟨nl,rfl,⟨_,SqL.of hnl4⟩,z2c (K:=K) (a:=nl) (xs:=ts.map V.ref) (fun i σ H'=>∃v7 v8 v9 fo' wa',σ=[some (.ref l),some (.ref d),some (.ref fl),some (.ref wd),some (.ref wl),some (.int (p:Nat)),v6,v7,v8,v9]∧i≤3∧
   Je (ns.drop i) fo' wa'=some (foE,waE)∧fo'[p]?=some (some st)∧Srch K H H' d fl wd wl rs fo' wa' (301 - n) (3 * (300 - n)+i)∧(∃kvs,H' wd=some (.dK kvs)∧valV kvs (Sum.inl (p:Int):Key)=some (.ref tp))∧H' tp=some (.tup np)∧
   H' nl=some (.lst (ts.map V.ref))∧NxIn K H' ts ns)
  ⟨v7,v8,v9,fo,wa,rfl,by decide,hrel,hfp,S4.more (by lia) (by lia),⟨kvs,hwd,ht1⟩,ht2,hnl4,hN4⟩ (fun i σ H' _ ⟨_,_,_,_,_,_,_,_,_,_,_,_,h,_⟩=>SqL.of h) ?_ ?_⟩
 ·rintro i x σ H' hi ⟨v7,v8,v9,fo',wa',rfl,hi3,hrel',hfp',S',⟨kvs',hwd',hv'⟩,htp',hnl',hN'⟩
  obtain ⟨t,nx,a,rfl,hnx,ht,hst⟩:=hN'.get hi
  have hil:i < ts.length:=by have:=(kd.mp hi).1;simpa using this
  rw [z4B hnx] at hrel'
  obtain ⟨goal,st'⟩:=nx
  refine ⟨t,_,rfl,SqT.of ht,rfl,_,_,rfl,_,_,rfl,rfl,?_⟩
  have hgd:DGet H' wd (.int (p:Nat)) (some (.ref tp)):=by rw [←hv'];exact DGet.k (k:=Sum.inl (p:Int)) hwd'
  refine ⟨_,rfl,_,rfl,wd,_,rfl,hgd,_,rfl,by show 1≤sizeLine;decide,fun p2 hp2=>?_⟩
  have t2:=zg hp2 (.tup [goal])
  refine ⟨tp,p2,np,[goal],rfl,rfl,SqT.of (t2 _ _ htp'),SqT.of zb,ht3,by rw [sizeLine_eq];show np.length+1≤_;lia,nofun,fun _ p3 hp3=>?_⟩
  have t3:=zg hp3 (.tup (np++[goal]))
  have t23:=t2.trans t3
  have S2:=S'.same' t23
  have hwd2:=t23 _ _ hwd'
  have hnl2:=t23 _ _ hnl'
  have hN2:=hN'.keep (qZ.of t23)
  have hst2:=hst.same t23
  have htp2:=t23 _ _ htp'
  have hp33:(upd (upd H' p2 (.tup [goal])) p3 (.tup (np++[goal]))) p3=some (.tup (np++[goal])):=zb
  generalize upd (upd H' p2 (.tup [goal])) p3 (.tup (np++[goal]))=H5 at *
  obtain ⟨fv,hfl5,hF5⟩:=S2.fnd
  unfold Je at hrel'
  cases goal with
  | int j=>
   dsimp only at hrel'
   by_cases hj0:0≤j
   case neg=>rw [ko hj0] at hrel';cases hrel'
   rw [kq hj0] at hrel'
   obtain ⟨jn,rfl⟩:=kR hj0
   rw [kS] at hrel'
   cases hfj:fo'[jn]? with
   | none=>rw [hfj] at hrel';cases hrel'
   | some o=>
    obtain ⟨y,hy,hy2⟩:=hF5.get hfj
    rw [hfj] at hrel'
    refine ⟨_,rfl,_,rfl,fl,_,_,_,rfl,rfl,SqL.of hfl5,zi hy,rfl,_,rfl,?_⟩
    cases o with
    | none=>
     dsimp only at hrel' hy2
     subst hy2
     have npj:p≠jn:=fun z=>by rw [z,hfj] at hfp';cases hfp'
     have jlt:jn < fv.length:=(kd.mp hy).1
     have Sp:=S2.put (t:=p3) hfl5 hwd2 hst2 hp33 (by simp) (by rw [kh];show np.length+1≤_;lia) hfj
     have nwf:wd≠fl:=jU hwd2 hfl5 nofun
     have nlf:nl≠fl:=fun z=>by rw [z] at hn4;rw [S.fnd.choose_spec.1] at hn4;cases hn4
     have nlw:nl≠wl:=fun z=>by rw [z] at hn4;rw [S.wts] at hn4;cases hn4
     refine iteT ⟨_,rfl,_,rfl,_,rfl,fl,fv,_,jn,rfl,rfl,hfl5,?_,?_⟩
     ·unfold ixN
      rw [kq hj0,kq (by lia),kS]
     refine ⟨_,rfl,_,rfl,_,rfl,wd,_,rfl,DPut.k (k:=Sum.inl (jn:Int)) (by rw [zl nwf];exact hwd2) ?_,?_⟩
     ·obtain ⟨kk,e1,_,e3⟩:=S2.wks
      rw [hwd2] at e1
      cases e1
      rw [sizeLine_eq];lia
     have hwl5:(upd (upd H5 fl (.lst (fv.set jn (.ref a)))) wd (.dK (putK kvs' (Sum.inl (jn:Int)) (.ref p3)))) wl=some (.lst (wa'.map fun p=>V.int (p:Nat))):=by
      rw [zl (jU S2.wts hwd2 nofun),zl S2.nfw.symm];exact S2.wts
     refine ⟨_,rfl,.inl ⟨rfl,_,SqL.of hwl5⟩,_,rfl,wl,_,_,rfl,rfl,hwl5,?_,?_⟩
     ·rw [kg]
      have:=S2.wlen
      rw [sizeLine_eq];lia
     have kt:qZ H5 (upd (upd (upd H5 fl (.lst (fv.set jn (.ref a)))) wd (.dK (putK kvs' (Sum.inl (jn:Int)) (.ref p3)))) wl (.lst ((wa'.map fun p=>V.int (p:Nat))++[V.int (jn:Nat)]))):=
      ((qZ.upd hfl5 rfl).trans (qZ.upd (u:=.dK kvs') (by rw [zl nwf];exact hwd2) rfl)).trans (qZ.upd hwl5 rfl)
     refine ⟨_,_,_,_,_,rfl,by lia,hrel',by rw [List.getElem?_set,ko npj.symm];exact hfp',Sp.more (kc _) (by lia),⟨_,by rw [zl (jU hwd2 S2.wts nofun)];exact zb,?_⟩,kt _ _ htp2 rfl,?_,hN2.keep kt⟩
     ·rw [Jy,ko (fun z=>npj (by injection z with z;lia))];exact hv'
     ·rw [zl nlw,zl (jU hnl2 hwd2 nofun),zl nlf];exact hnl2
    | some s'=>
     dsimp only at hrel' hy2
     obtain ⟨a',rfl,hst'⟩:=hy2
     by_cases hs:s'=st'
     case neg=>rw [ko hs] at hrel';cases hrel'
     rw [kq hs] at hrel'
     subst hs
     refine iteF ⟨_,rfl,_,rfl,fl,_,_,_,rfl,rfl,SqL.of hfl5,zi hy,_,rfl,a',a,s',rfl,rfl,hst',hst2,false,rfl,iteF ?_⟩
     exact ⟨_,_,_,_,_,rfl,by lia,hrel',hfp',S2.more (kc _) (by lia),⟨kvs',hwd2,hv'⟩,htp2,hnl2,hN2⟩
  | _=>cases hrel'
 ·rintro σ H' ⟨v7,v8,v9,fo',wa',rfl,hi3,hrel',hfp',S',_⟩
  have hdr:ns.drop (ts.map V.ref).length=[]:=by rw [kg,hts];simp
  rw [hdr] at hrel'
  unfold Je at hrel'
  cases hrel'
  exact k _ H' ⟨_,_,_,_,_,rfl⟩ (S'.more (kc _) (by rw [kg] at *;lia))
end
section
noncomputable def z9c:Stmt:=(zV (top 52)).getD 5 (.Pass ⟨0,0,0,0⟩)
def z9h (K:kn) (H:Hp) (l:Addr) (rs:List Row) (fin:Fnd):TS:=fun D σ H3=>∃(d fl wd wl:Addr) (f0:Fnd),σ=[some (.ref l),some (.ref d),some (.ref fl),some (.ref wd),some (.ref wl),none,none,none,none,none]∧bfs rs 300 f0 [0]=some fin∧
 Srch K H H3 d fl wd wl rs f0 [0] (301 - 300) (3 * (301 - 300))∧∀v1 v3 v4 v5 v6 v7 v8 v9 fvs H',Same H H'→H fl=none→H' fl=some (.lst fvs)→qJ K H' fvs fin→D.nx [some (.ref l),v1,some (.ref fl),v3,v4,v5,v6,v7,v8,v9] H'
theorem z6L {f:Addr} {cdv:Value} {A:Around} {outer:List Env} {s:Shared} {H:Hp} {E:XK} {l:Addr} {as:List Addr} {rs:List Row} {fin:Fnd} (hr:Room 7 (A.deeper (envOfC "searched" (ze (top 52)) s.heap.objs.size f cdv)))
  (hS:SqL K H l (as.map V.ref)) (hR:zv H as rs) (hc:Code rs) (FS:FN P w K mg base 5 "state_words" ["code","labels","place","state"] (spSw K)) (FN':FN P w K mg base 4 "next_states" ["code","labels","place","state"] (z1Q K)):
  PS (cxOf CX0 P w K mg base N54 "searched" (ze (top 52)) f cdv A outer s H E).nox z9c (z9h K H l rs fin):=by
 have hr5:=hr.mono (show 5≤7 by decide)
 refine PS.imp (z1U PassesOwn.never (Qx (pv 4) (fun _=>rfl))
   (z8 (zI (i:=5) sc52.nd rfl (Or.inl rfl) (z8o PySem.F.plainAttrs_list PySem.F.slot_list_pop PySem.F.type_list_pop z5z (pv 4) (z6 zc z7)))
   (z8 (zI (i:=6) sc52.nd rfl (Or.inl rfl) (zp FS hr5 rfl (z6 (pv 0) (z6 (pv 1) (z6 (pv 5) (z6 (zx zr (pv 2) (pv 5) (fun _ _=>rfl)) z7))))))
   (z8 (zH (Qx (pv 6) (fun _=>rfl)) Z0 zu)
   (zd (z9A hr hS hR hc FN')))))) ?_
 rintro D σ H3 ⟨d,fl,wd,wl,f0,rfl,hfin,Zo,q⟩
 refine ⟨fun m σ H2=>∃fo wa v5 v6 v7 v8 v9,σ=[some (.ref l),some (.ref d),some (.ref fl),some (.ref wd),some (.ref wl),v5,v6,v7,v8,v9]∧m≤300∧bfs rs m fo wa=some fin∧Srch K H H2 d fl wd wl rs fo wa (301 - m) (3 * (301 - m)),⟨300,f0,[0],none,none,none,none,none,rfl,kc _,hfin,Zo⟩,?_⟩
 clear Zo
 rintro m σ H2 ⟨fo,wa,v5,v6,v7,v8,v9,rfl,hm,hb,S⟩
 refine ⟨_,rfl,!wa.isEmpty,.inl ⟨_,SqL.of S.wts,by rw [List.isEmpty_map]⟩,?_⟩
 cases wa with
 | nil=>
  have hb:some fo=some fin:=by unfold bfs at hb;exact hb
  cases hb
  obtain ⟨fvs,hfl2,hF⟩:=S.fnd
  exact iteF (q _ _ _ _ _ _ _ _ fvs H2 S.same S.nf hfl2 hF)
 | cons p wa=>
  cases m with
  | zero=>unfold bfs at hb;cases hb
  | succ n=>
   unfold bfs at hb
   cases hrp:rs[p]? with
   | none=>rw [hrp] at hb;cases hb
   | some r=>
    cases hfp:fo[p]? with
    | none=>rw [hrp,hfp] at hb;cases hb
    | some o=>
     cases o with
     | none=>rw [hrp,hfp] at hb;cases hb
     | some st=>
      rw [hrp,hfp] at hb
      dsimp only at hb
      by_cases hw:(QE rs p r st.1 st.2.getLast?).isEmpty=true∧st.2.length≤1000
      case neg=>rw [ko hw] at hb;cases hb
      rw [kq hw] at hb
      obtain ⟨hw,hz⟩:=hw
      cases hrel:Je (QY rs p r st) fo wa with
      | none=>rw [hrel] at hb;cases hb
      | some fw=>
       obtain ⟨foE,waE⟩:=fw
       rw [hrel] at hb
       dsimp only at hb
       refine iteT ⟨fun σ' H'=>∃v5 v6 v7 v8 v9,σ'=[some (.ref l),some (.ref d),some (.ref fl),some (.ref wd),some (.ref wl),v5,v6,v7,v8,v9]∧Srch K H H' d fl wd wl rs foE waE (301 - n) (3 * (301 - n)),fun σ' H' ⟨v5,v6,v7,v8,v9,e,S'⟩=>⟨n,Nat.lt_succ_self _,foE,waE,v5,v6,v7,v8,v9,e,by lia,hb,S'⟩,?_⟩
       obtain ⟨k1,k2,k3⟩:=pop0 (xs:=(p :: wa).map fun p=>V.int (p:Nat)) rfl
       refine ⟨_,rfl,.inl ⟨rfl,_,SqL.of S.wts⟩,wl,_,0,0,_,rfl,rfl,S.wts,by decide,by decide,k1,k2,?_⟩
       rw [k3]
       have S1:=S.pop
       generalize upd H2 wl (.lst (wa.map fun p=>V.int (p:Nat)))=H3 at S1
       obtain ⟨fvs,hfl2,hF⟩:=S1.fnd
       obtain ⟨x,hx,hx2⟩:=hF.get hfp
       obtain ⟨sa,rfl,hsa⟩:=hx2
       refine ⟨_,rfl,_,rfl,_,rfl,_,rfl,_,rfl,fl,_,_,_,rfl,rfl,SqL.of hfl2,zi hx,l,d,p,sa,st,rs,r,rfl,S1.code hS hR hc,hrp,hsa,fun wf H4 s4 hn4 hwf=>?_⟩
       refine ⟨_,rfl,false,.inl ⟨_,SqL.of hwf,by rw [List.isEmpty_map,hw];rfl⟩,iteF ?_⟩
       exact ⟨d,fl,wd,wl,p,r,st,n,_,_,_,_,fo,wa,foE,waE,rfl,by lia,hrp,hfp,hz,hrel,(S1.same' s4).more (by lia) (by lia),fun σ' H' ⟨v5,v6,v7,v8,v9,e⟩ S'=>⟨v5,v6,v7,v8,v9,e,S'⟩⟩
theorem z1z (D:zt K mg "searched" (top 52)) (G:Glo mg) (T:z6l w K mg) (FL:FN P w K mg base 7 "label_places" ["rows"] (z3w K)) (FS:FN P w K mg base 5 "state_words" ["code","labels","place","state"] (spSw K)) (FN':FN P w K mg base 4 "next_states" ["code","labels","place","state"] (z1Q K)):
  FN P w K mg base 8 "searched" ["code"] (Ji K):=by
 refine FN.o D sc52 fun f cdv A outer s H vs Q E hr h=>?_
 obtain ⟨l,as,rs,fin,rfl,hS,hR,hc,hfin,q⟩:=h
 have hu:=z5F hr
 have hu3:(A.deeper (envOfC "searched" (ze (top 52)) s.heap.objs.size f cdv)).units+3 < cLine:=by have:=hr.un;lia
 obtain ⟨fa,fg,mfa,tfa,tfg⟩:=T.first
 have hr5:=hr.mono (show 5≤7 by decide)
 have hr4:=hr.mono (show 4≤7 by decide)
 refine ⟨_,z8 (zI (i:=1) sc52.nd rfl (Or.inl rfl) (zp FL hr rfl (z6 (pv 0) z7)))
  (z8 (zI (i:=2) sc52.nd rfl (Or.inl rfl) (zG z8r (zO (z6 qc z7)) (zw zy rfl G.len zW (z6 (pv 0) z7))))
  (z8 (jW (Q1 rfl mfa (v:=.ref fa) rfl) (z1X (pv 2) zc Qv))
  (z8 (zI (i:=3) sc52.nd rfl (Or.inl rfl) (z3U (ZC zc (zF (z6 zc z7)) z3O) rfl rfl nofun (by decide)))
  (z8 (zI (i:=4) sc52.nd rfl (Or.inl rfl) (zO (z6 zc z7)))
  (z8 (z6L (fin:=fin) hr hS hR hc FS FN')
  (zd (zm (zF (z6 (pv 2) (z6 qc z7)))))))))),?_⟩
 have hlen:=hc.hi
 have hlo:=hc.lo
 refine ⟨_,rfl,l,as,rs,rfl,hS,hR,hc.ok,by lia,fun d kvs0 H1 hd0 s1 hd1 hL=>?_⟩
 have hll:as.length=rs.length:=hR.len
 refine ⟨by show 1≤sizeLine;decide,fun p0 hp0=>?_⟩
 have t0:=zg hp0 (.lst [V.non])
 refine ⟨_,rfl,l,_,rfl,.inl (t0.seq (s1.seq hS)),p0,_,[V.non],rfl,rfl,zb,?_,?_,?_,fun fl hfl=>?_⟩
 ·rw [kg];lia
 ·rw [kg];lia
 ·rw [kg]
  show 1 * ((as.length:Nat):Int).toNat≤sizeLine
  rw [sizeLine_eq,kS];lia
 have efl:(List.replicate (((as.map V.ref).length:Nat):Int).toNat [V.non]).flatten=List.replicate rs.length V.non:=by
  rw [kS,kg,hll]
  generalize rs.length=n
  induction n with
  | zero=>rfl
  | succ n ih=>rw [List.replicate_succ,List.flatten_cons,ih];rfl
 rw [efl]
 have sA:Same H (upd H1 p0 (.lst [V.non])):=s1.trans t0
 have hfl0:H fl=none:=sA.free hfl
 have nfd:d≠fl:=zh (t0 _ _ hd1) hfl
 refine ⟨_,rfl,fl,_,0,0,rfl,rfl,zb,?_,?_⟩
 ·unfold ixN
  rw [kq (by decide),kq (by rw [List.length_replicate];lia)]
  rfl
 rw [z6O]
 have f0:qJ K (upd (upd H1 p0 (.lst [V.non])) fl (.lst ((List.replicate rs.length V.non).set 0 (.ref fa)))) ((List.replicate rs.length V.non).set 0 (.ref fa)) ((List.replicate rs.length none).set 0 (some (0,[]))):=
  qJ.set (st:=(0,[])) ⟨fg,tfa.sq _,[],tfg.sq _,.nil⟩ 0 (Js _ _ _)
 generalize hfv:(List.replicate rs.length V.non).set 0 (V.ref fa)=fvs0 at f0
 intro wd hwd
 have sB:Same H (upd (upd H1 p0 (.lst [V.non])) fl (.lst fvs0)):=fun b o e=>by rw [zl (zh e hfl0)];exact sA _ _ e
 generalize hHB:upd (upd H1 p0 (.lst [V.non])) fl (.lst fvs0)=HB at *
 have hflB:HB fl=some (.lst fvs0):=by rw [←hHB];exact zb
 have hdB:HB d=some (.dK kvs0):=by rw [←hHB,zl nfd];exact t0 _ _ hd1
 have hwd0:H wd=none:=sB.free hwd
 have s3:=zg hwd (.dK [])
 refine ⟨by show 1≤sizeLine;decide,fun p1 hp1=>?_⟩
 have s4:=zg hp1 (.tup [V.int 0])
 refine ⟨s4 _ _ zb,[(Sum.inl 0,.ref p1)],rfl,(by show 1≤15;decide),?_⟩
 have em:Qe [] [((Sum.inl 0:Key),V.ref p1)]=[(Sum.inl 0,V.ref p1)]:=rfl
 rw [em]
 refine ⟨by show 1≤sizeLine;decide,fun wl hwl=>?_⟩
 have npw:p1≠wd:=(zh (H:=upd HB wd (.dK [])) zb hp1).symm
 have hwl':wl≠wd:=fun z=>by rw [z,zb] at hwl;cases hwl
 have hwl2:(upd (upd HB wd (.dK [])) p1 (.tup [V.int 0])) wl=none:=by rw [zl hwl'] at hwl;exact hwl
 have sC:Same HB (upd (upd HB wd (.dK [])) p1 (.tup [V.int 0])):=s3.trans s4
 have hwlB:HB wl=none:=sC.free hwl2
 have sD:Same HB (upd (upd (upd (upd HB wd (.dK [])) p1 (.tup [V.int 0])) wd (.dK [(Sum.inl 0,V.ref p1)])) wl (.lst [V.int 0])):=fun b o e=>by
  rw [zl (zh e hwlB),zl (zh e hwd)];exact sC _ _ e
 generalize hHD:upd (upd (upd (upd HB wd (.dK [])) p1 (.tup [V.int 0])) wd (.dK [(Sum.inl 0,V.ref p1)])) wl (.lst [V.int 0])=HD at *
 have hp1D:HD p1=some (.tup [V.int 0]):=by
  rw [←hHD,zl (fun z=>by rw [←z,zb] at hwl2;cases hwl2),zl npw];exact zb
 have hwdD:HD wd=some (.dK [(Sum.inl 0,V.ref p1)]):=by rw [←hHD,zl hwl'.symm];exact zb
 have hwlD:HD wl=some (.lst [V.int 0]):=by rw [←hHD];exact zb
 have Zo:Srch K H HD d fl wd wl rs ((List.replicate rs.length none).set 0 (some (0,[]))) [0] (301 - 300) (3 * (301 - 300)):=by
  refine ⟨sB.trans sD,⟨kvs0,sD _ _ hdB,hL⟩,hfl0,hwd0,sB.free hwlB,⟨fvs0,sD _ _ hflB,f0.keep (qZ.of sD)⟩,⟨_,hwdD,fun p st e=>?_,(by show 1≤3;decide)⟩,hwlD,(by show 1≤3;decide),by simp,zh hdB hwd,zh hflB hwlB⟩
  have hp:p=0:=by
   rw [List.getElem?_set] at e
   by_cases z:0=p
   ·exact z.symm
   ·rw [ko z,List.getElem?_replicate] at e
    split at e <;> cases e
  subst hp
  exact ⟨p1,_,rfl,hp1D,nofun,(by show 1≤1;decide)⟩
 refine ⟨d,fl,wd,wl,_,rfl,hfin,Zo,fun v1 v3 v4 v5 v6 v7 v8 v9 fvs H' s' _ h1 h2=>?_⟩
 refine ⟨_,rfl,by show 2≤sizeLine;decide,fun t ht=>?_⟩
 have st:=zg ht (.tup [V.ref fl,.non])
 exact q t fl fvs _ (s'.trans st) (s'.free ht) hfl0 zb (st _ _ h1) (h2.keep (qZ.of st))
end
section
def JA (K:kn):Sp:=fun vs H Q _=>∃l as rs fin,vs=[.ref l]∧H l=some (.lst (as.map V.ref))∧zv H as rs∧Code rs∧ZW rs=some fin∧
 ∀fl fvs H',Same H H'→H fl=none→H' fl=some (.lst fvs)→qJ K H' fvs fin→Q (.ref fl) H'
theorem sc53:zn ["code","found","reason"] ["code"] (ze (top 53)):=fsM
theorem z4t (D:zt K mg "states" (top 53)) (FC:FN P w K mg base 9 "check_code" ["thing"] z3z) (FS:FN P w K mg base 8 "searched" ["code"] (Ji K)):FN P w K mg base 10 "states" ["code"] (JA K):=by
 refine FN.o D sc53 fun f cdv A outer s H vs Q E hr h=>?_
 obtain ⟨l,as,rs,fin,rfl,hl,hR,hc,hfin,q⟩:=h
 refine ⟨_,z8 (zj (zp FC hr rfl (z6 (pv 0) z7)))
  (z8 (jW (zp FS (hr.mono (by decide)) rfl (z6 (pv 0) z7)) (jX rfl (zD (zB (i:=1) sc53.nd rfl (Or.inl rfl)) (zD (zB (i:=2) sc53.nd rfl (Or.inl rfl)) qY))))
  (z8 (zH (zk JL (pv 2) qc (zo _)) Z0 zu) (zd (zm (pv 1))))),?_⟩
 refine ⟨_,rfl,l,as,rs,rfl,hl,hR,hc,fun H1 s1=>?_⟩
 refine ⟨_,rfl,l,as,rs,fin,rfl,SqL.of (s1 _ _ hl),hR.same s1,hc,hfin,fun t fl fvs H2 s2 ht hfl h1 h2 h3=>?_⟩
 refine ⟨t,_,rfl,SqT.of h1,rfl,_,_,rfl,_,_,rfl,rfl,?_⟩
 exact ⟨_,rfl,rfl,_,rfl,iteF ⟨_,rfl,q fl fvs H2 (s1.trans s2) (s1.free hfl) h2 h3⟩⟩
noncomputable def z07:V→Bool
 | .non=>false
 | .bl b=>b
 | .int i=>i != 0
 | .str z=>(z.length:Int) != 0
 | _=>true
def z1P:Sp:=fun vs H Q _=>∃x,vs=[x]∧Scal x∧Q (.bl (z07 x)) H
theorem sc56:zn ["value"] ["value"] (ze (top 56)):=fsM
theorem z7j (D:zt K mg "is_true" (top 56)) (G:Glo mg):FN P w K mg base 1 "is_true" ["value"] z1P:=by
 refine FN.o D sc56 fun f cdv A outer s H vs Q E hr h=>?_
 obtain ⟨x,rfl,hx,q⟩:=h
 refine ⟨_,zd (zm (z0m z01 rfl G.bool jd (z6 (pv 0) z7))),?_⟩
 refine ⟨x,rfl,x,rfl,?_⟩
 cases hx with
 | non=>exact .inl ⟨rfl,q⟩
 | bl b=>exact .inr (.inl ⟨b,rfl,q⟩)
 | int i=>exact .inr (.inr (.inl ⟨i,rfl,q⟩))
 | str z hz=>exact .inr (.inr (.inr ⟨z,rfl,hz,q⟩))
theorem z2p:bootBuiltins "all"=some (.builtin "all"):=by trivial
end
noncomputable def jH:V→Bool
 | .str z=>decide (z.length≤1000)
 | .non=>true
 | .bl _=>true
 | .int _=>true
 | _=>false
theorem jp {x:V} (h:jH x=true):Scal x:=by
 cases x with
 | str z=>exact .str z (z1S (ku h))
 | non=>exact .non
 | bl b=>exact .bl b
 | int i=>exact .int i
 | _=>cases h
theorem qP {a b:Str}:decide (V.str a=V.str b)=decide (a=b):=by
 by_cases h:a=b
 ·rw [h];simp
 ·rw [ke h,ke (fun z=>h (by injection z))]
theorem z03:bootBuiltins "abs"=some (.builtin "abs"):=by trivial
theorem z21 {X:Cx}:OpR X (binaryOp .FloorDiv) (rI (fun _ j=>j≠0∧j.natAbs.log2 < 9000) fun i j=>.int (i.fdiv j)):=opI fun _ _ _ _ _ _ _ hc q=>floordiv_int hc.1 q (.inl (PyProof.noPylong_of_log2 hc.2))
noncomputable def big (i:Int):Bool:=decide (1000000000000000000 < i.natAbs)
theorem z0A {j:Int} (h:big j=false):j.natAbs.log2 < 9000:=by
 have h1:¬1000000000000000000 < j.natAbs:=of_decide_eq_false h
 by_cases z:j.natAbs=0
 ·rw [z];decide
 ·have h2:=(Nat.log2_lt z (k:=64)).mpr (by lia)
  lia
noncomputable def reck (op:Str) (i j:Int):Option Int:=
 if op="add" then some (i+j) else if op="sub" then some (i - j) else if op="mul" then some (i * j) else if op="div" then (if j=0 then none else some (i.fdiv j)) else if op="rest" then (if j=0 then none else some (i.fmod j)) else none
noncomputable def z3I (x y:V):Bool:=isB x == isB y&&decide (x=y)
noncomputable def jz (op:Str) (x y:V):Option (V × V):=
 if op="same" then some (.non,.bl (z3I x y)) else match x,y with
 | .int i,.int j=>if big i=true then none else if big j=true then none else if (op="div"∨op="rest")∧j=0 then some (.str "Zero",.non) else if op="less" then some (.non,.bl (decide (i < j)))
  else (match reck op i j with
   | some k=>if big k=true then some (.str "Big",.non) else some (.non,.int k)
   | none=>none)
 | _,_=>some (.str "Type",.non)
theorem Ze {op:Str} {x y:V} (h0:op≠"same") (h:jb x=false∨jb y=false):jz op x y=some (.str "Type",.non):=by
 unfold jz
 rw [ko h0]
 cases x with
 | int i=>
  cases y with
  | int j=>rcases h with h | h <;> cases h
  | _=>rfl
 | _=>rfl
noncomputable def J0 (op:Str) (x:V):Option (V × V):=
 if op="not" then some (.non,.bl (!z07 x)) else match x with
 | .int i=>some (.non,.int (-i))
 | _=>some (.str "Type",.non)
structure TabR (w:World) (K:kn) (mg:Str→Option Value):Prop where
 tab:∃d f1 f2 f3 f4 f5,mg "RECKONINGS"=some (.ref d)∧KTab w.params K d [("add",.ref f1),("sub",.ref f2),("mul",.ref f3),("div",.ref f4),("rest",.ref f5)]∧
  mg "sum_of"=some (.ref f1)∧mg "difference_of"=some (.ref f2)∧mg "product_of"=some (.ref f3)∧mg "quotient_of"=some (.ref f4)∧mg "rest_of"=some (.ref f5)
def spI2 (c:Int→Int→Prop) (g:Int→Int→Int):Sp:=fun vs H Q _=>∃i j,vs=[.int i,.int j]∧c i j∧Q (.int (g i j)) H
theorem Zy {c:Int→Int→Prop} {g:Int→Int→Int} (vs:List V) (H:Hp) (Q:VK) (E:XK) (h:spI2 c g vs H Q E):vs.length=2:=by
 obtain ⟨i,j,rfl,_⟩:=h
 rfl
abbrev Sm (i j:Int):Prop:=big i=false∧big j=false
section
theorem sc58:zn ["first","second"] ["first","second"] (ze (top 58)):=fsM
theorem z8K (D:zt K mg "sum_of" (top 58)):FN P w K mg base 1 "sum_of" ["first","second"] (spI2 Sm (· +·)):=by
 refine FN.of D sc58 (fun _ _ _ _ _ _=>zU2 fun _ _=>rfl) Zy (fun f cdv A outer s H vs Q E hr h=>?_)
 obtain ⟨i,j,rfl,hc,q⟩:=h
 exact ⟨_,zd (zm (zG j9 (pv 0) (pv 1))),_,rfl,_,rfl,i,j,rfl,rfl,q⟩
theorem sc59:zn ["first","second"] ["first","second"] (ze (top 59)):=fsM
theorem z7D (D:zt K mg "difference_of" (top 59)):FN P w K mg base 1 "difference_of" ["first","second"] (spI2 Sm (· - ·)):=by
 refine FN.of D sc59 (fun _ _ _ _ _ _=>zU2 fun _ _=>rfl) Zy (fun f cdv A outer s H vs Q E hr h=>?_)
 obtain ⟨i,j,rfl,hc,q⟩:=h
 exact ⟨_,zd (zm (zG qo (pv 0) (pv 1))),_,rfl,_,rfl,i,j,rfl,rfl,q⟩
theorem sc60:zn ["first","second"] ["first","second"] (ze (top 60)):=fsM
theorem z0e {i j:Int} (h:big i=false):CMul i j:=by
 have h1:¬1000000000000000000 < i.natAbs:=of_decide_eq_false h
 exact .inl ⟨by lia,by lia⟩
theorem z7q (D:zt K mg "product_of" (top 60)):FN P w K mg base 1 "product_of" ["first","second"] (spI2 Sm (· * ·)):=by
 refine FN.of D sc60 (fun _ _ _ _ _ _=>zU2 fun _ _=>rfl) Zy (fun f cdv A outer s H vs Q E hr h=>?_)
 obtain ⟨i,j,rfl,hc,q⟩:=h
 exact ⟨_,zd (zm (zG Jp (pv 0) (pv 1))),_,rfl,_,rfl,i,j,rfl,rfl,z0e hc.1,q⟩
theorem sc61:zn ["first","second"] ["first","second"] (ze (top 61)):=fsM
theorem z7p (D:zt K mg "quotient_of" (top 61)):FN P w K mg base 1 "quotient_of" ["first","second"] (spI2 (fun i j=>Sm i j∧j≠0) Int.fdiv):=by
 refine FN.of D sc61 (fun _ _ _ _ _ _=>zU2 fun _ _=>rfl) Zy (fun f cdv A outer s H vs Q E hr h=>?_)
 obtain ⟨i,j,rfl,hc,q⟩:=h
 exact ⟨_,zd (zm (zG z21 (pv 0) (pv 1))),_,rfl,_,rfl,i,j,rfl,rfl,⟨hc.2,z0A hc.1.2⟩,q⟩
theorem sc62:zn ["first","second"] ["first","second"] (ze (top 62)):=fsM
theorem z7o (D:zt K mg "rest_of" (top 62)):FN P w K mg base 1 "rest_of" ["first","second"] (spI2 (fun i j=>Sm i j∧j≠0) Int.fmod):=by
 refine FN.of D sc62 (fun _ _ _ _ _ _=>zU2 fun _ _=>rfl) Zy (fun f cdv A outer s H vs Q E hr h=>?_)
 obtain ⟨i,j,rfl,hc,q⟩:=h
 exact ⟨_,zd (zm (zG z3Z (pv 0) (pv 1))),_,rfl,_,rfl,i,j,rfl,rfl,hc.2,q⟩
def z6r:Sp:=fun vs H Q _=>∃x y,vs=[x,y]∧Scal x∧Scal y∧Q (.bl (z3I x y)) H
theorem sc57:zn ["first","second"] ["first","second"] (ze (top 57)):=fsM
theorem z0i {x y:V} (hx:Scal x) (hy:Scal y) (h:isB x=isB y):scal x y=true:=by
 cases hx <;> cases hy <;> first | rfl | (cases h)
theorem z7n (D:zt K mg "are_same" (top 57)) (G:Glo mg):FN P w K mg base 1 "are_same" ["first","second"] z6r:=by
 refine FN.o D sc57 fun f cdv A outer s H vs Q E hr h=>?_
 obtain ⟨x,y,rfl,hx,hy,q⟩:=h
 refine ⟨_,zd (zm (jh (zU qe (zw qd rfl G.isinstance zE (z6 (pv 0) (z6 (Q0 "bool" rfl G.bool jd) z7))) (zw qd rfl G.isinstance zE (z6 (pv 1) (z6 (Q0 "bool" rfl G.bool jd) z7))) (zo _))
  (j8 (zU qe (pv 0) (pv 1) (zo _))))),?_⟩
 obtain ⟨t1,ty1,k1⟩:=jv (K:=K) (H:=H) hx
 obtain ⟨t2,ty2,k2⟩:=jv (K:=K) (H:=H) hy
 refine ⟨_,rfl,_,"bool",t1,_,rfl,ty1,k1,_,rfl,_,"bool",t2,_,rfl,ty2,k2,rfl,isB x == isB y,congrArg V.bl Ju,?_⟩
 unfold z3I at q
 cases e:isB x == isB y with
 | true=>
  rw [e,Bool.true_and] at q
  exact iteT ⟨_,rfl,_,rfl,z0i hx hy (eq_of_beq e),q⟩
 | false=>
  rw [e,Bool.false_and] at q
  exact iteF q
def z3u:Sp:=fun vs H Q _=>∃op x y r1 r2,vs=[.str op,x,y]∧Scal x∧Scal y∧jz op x y=some (r1,r2)∧∀t H',Same H H'→H' t=some (.tup [r1,r2])→Q (.ref t) H'
theorem sc64:zn ["op","first","second","reckon","value"] ["op","first","second"] (ze (top 64)):=fsM
theorem z7Q {k:Int}:decide ((1000000000000000000:Int) < (if k < 0 then -k else k))=big k:=by
 unfold big
 by_cases h:k < 0
 ·rw [kq h]
  by_cases z:(1000000000000000000:Int) < -k
  ·rw [kf z,kf (by lia)]
  ·rw [ke z,ke (by lia)]
 ·rw [ko h]
  by_cases z:(1000000000000000000:Int) < k
  ·rw [kf z,kf (by lia)]
  ·rw [ke z,ke (by lia)]
noncomputable def st66 (k:Nat):Stmt:=(zV (top 64)).getD k (.Pass ⟨0,0,0,0⟩)
noncomputable abbrev N66:List Str:=["op","first","second","reckon","value"]
noncomputable def z24 (op:Str) (i j:Int):Option (V × V):=if op="less" then some (.non,.bl (decide (i < j))) else (match reck op i j with
 | some k=>if big k=true then some (.str "Big",.non) else some (.non,.int k)
 | none=>none)
def T66:TS:=fun D σ H=>∃(op:Str) (i j:Int) (r1 r2:V),σ=[some (.str op),some (.int i),some (.int j),none,none]∧Sm i j∧z24 op i j=some (r1,r2)∧∀t H',Same H H'→H' t=some (.tup [r1,r2])→D.rt (.ref t) H'
theorem z71 {K:kn} {mg:Str→Option Value} {f1 f2 f3 f4 f5:Addr} {op:Str} {i j k:Int} (hs:Sm i j) (h:reck op i j=some k) (m1:mg "sum_of"=some (.ref f1)) (m2:mg "difference_of"=some (.ref f2)) (m3:mg "product_of"=some (.ref f3)) (m4:mg "quotient_of"=some (.ref f4)) (m5:mg "rest_of"=some (.ref f5))
  (F1:FN P w K mg base 1 "sum_of" ["first","second"] (spI2 Sm (· +·))) (F2:FN P w K mg base 1 "difference_of" ["first","second"] (spI2 Sm (· - ·))) (F3:FN P w K mg base 1 "product_of" ["first","second"] (spI2 Sm (· * ·)))
  (F4:FN P w K mg base 1 "quotient_of" ["first","second"] (spI2 (fun i j=>Sm i j∧j≠0) Int.fdiv)) (F5:FN P w K mg base 1 "rest_of" ["first","second"] (spI2 (fun i j=>Sm i j∧j≠0) Int.fmod)):
  ∃(c:Int→Int→Prop) (g:Int→Int→Int) (name:Str) (fa:Addr),FN P w K mg base 1 name ["first","second"] (spI2 c g)∧mg name=some (.ref fa)∧([("add",.ref f1),("sub",.ref f2),("mul",.ref f3),("div",.ref f4),("rest",.ref f5)]:List (Str × V)).lookup op=some (.ref fa)∧c i j∧g i j=k:=by
 unfold reck at h
 by_cases h1:op="add"
 ·rw [kq h1] at h;exact ⟨_,_,_,_,F1,m1,by rw [h1];rfl,hs,kr h⟩
 rw [ko h1] at h
 by_cases h1:op="sub"
 ·rw [kq h1] at h;exact ⟨_,_,_,_,F2,m2,by rw [h1];rfl,hs,kr h⟩
 rw [ko h1] at h
 by_cases h1:op="mul"
 ·rw [kq h1] at h;exact ⟨_,_,_,_,F3,m3,by rw [h1];rfl,hs,kr h⟩
 rw [ko h1] at h
 by_cases h1:op="div"
 ·rw [kq h1] at h
  by_cases hj:j=0
  ·rw [kq hj] at h;cases h
  ·rw [ko hj] at h;exact ⟨_,_,_,_,F4,m4,by rw [h1];rfl,⟨hs,hj⟩,kr h⟩
 rw [ko h1] at h
 by_cases h1:op="rest"
 ·rw [kq h1] at h
  by_cases hj:j=0
  ·rw [kq hj] at h;cases h
  ·rw [ko hj] at h;exact ⟨_,_,_,_,F5,m5,by rw [h1];rfl,⟨hs,hj⟩,kr h⟩
 rw [ko h1] at h
 cases h
theorem z8h {f:Addr} {cdv:Value} {A:Around} {outer:List Env} {s:Shared} {H0:Hp} {E:XK} (hr:Room 1 (A.deeper (envOfC "made_of_two" (ze (top 64)) s.heap.objs.size f cdv))) (G:Glo mg) (T:TabR w K mg)
  (F1:FN P w K mg base 1 "sum_of" ["first","second"] (spI2 Sm (· +·))) (F2:FN P w K mg base 1 "difference_of" ["first","second"] (spI2 Sm (· - ·))) (F3:FN P w K mg base 1 "product_of" ["first","second"] (spI2 Sm (· * ·)))
  (F4:FN P w K mg base 1 "quotient_of" ["first","second"] (spI2 (fun i j=>Sm i j∧j≠0) Int.fdiv)) (F5:FN P w K mg base 1 "rest_of" ["first","second"] (spI2 (fun i j=>Sm i j∧j≠0) Int.fmod)):
  PSs (cxOf CX0 P w K mg base N66 "made_of_two" (ze (top 64)) f cdv A outer s H0 E).nox [st66 3,st66 4,st66 5,st66 6,st66 7] T66:=by
 obtain ⟨d,f1,f2,f3,f4,f5,md,td,m1,m2,m3,m4,m5⟩:=T.tab
 refine PSs.imp (z8 (zH (zk qe (pv 0) zf (zo _)) (zd (zm (zF (z6 qc (z6 (zU Q2 (pv 1) (pv 2) (zo _)) z7))))) zu)
  (z8 (zI (i:=3) sc64.nd rfl (Or.inl rfl) (QT td rfl md (pv 0) (fun _ _=>rfl)))
  (z8 (zI (i:=4) sc64.nd rfl (Or.inl rfl) (JK (pv 3) (z6 (pv 1) (z6 (pv 2) z7))))
  (z8 (zH (zk JN (zw z02 rfl G.abs z03 (z6 (pv 4) z7)) (jS rfl G.made) (zo _)) (zd (zm (zF (z6 zf (z6 qc z7))))) zu)
  (zd (zm (zF (z6 qc (z6 (pv 4) z7))))))))) ?_
 rintro D σ H ⟨op,i,j,r1,r2,rfl,hs,hm,q⟩
 unfold z24 at hm
 refine ⟨_,rfl,rfl,decide (op="less"),congrArg V.bl qP,?_⟩
 by_cases h0:op="less"
 ·rw [kq h0] at hm
  cases hm
  rw [kf h0]
  exact iteT ⟨_,rfl,_,rfl,_,_,rfl,rfl,by show 2≤sizeLine;decide,fun t ht=>q t _ (zg ht _) zb⟩
 rw [ko h0] at hm
 rw [ke h0]
 refine iteF ?_
 cases hk:reck op i j with
 | none=>rw [hk] at hm;cases hm
 | some k=>
  rw [hk] at hm
  dsimp only at hm
  obtain ⟨c,g,name,fa,⟨f',fd,a',b',c',d'⟩,e1,e2,e3,e4⟩:=z71 (P:=P) (w:=w) (base:=base) hs hk m1 m2 m3 m4 m5 F1 F2 F3 F4 F5
  rw [a'] at e1
  cases e1
  subst e4
  refine ⟨_,rfl,op,_,rfl,e2,fa,fd,_,_,1,rfl,b',d',hr,c',_,rfl,_,rfl,i,j,rfl,e3,?_⟩
  refine ⟨_,rfl,_,rfl,_,_,rfl,rfl,big (g i j),congrArg V.bl z7Q,?_⟩
  cases b:big (g i j) with
  | true=>
   rw [b,kq rfl] at hm
   cases hm
   exact iteT ⟨by show 2≤sizeLine;decide,fun t ht=>q t _ (zg ht _) zb⟩
  | false=>
   rw [b,ko ka] at hm
   cases hm
   exact iteF ⟨_,rfl,by show 2≤sizeLine;decide,fun t ht=>q t _ (zg ht _) zb⟩
theorem z5U (D:zt K mg "made_of_two" (top 64)) (FN1:FN P w K mg base 1 "is_number" ["thing"] (sp1 jb)) (FSm:FN P w K mg base 1 "are_same" ["first","second"] z6r) (G:Glo mg) (T:TabR w K mg)
  (F1:FN P w K mg base 1 "sum_of" ["first","second"] (spI2 Sm (· +·))) (F2:FN P w K mg base 1 "difference_of" ["first","second"] (spI2 Sm (· - ·))) (F3:FN P w K mg base 1 "product_of" ["first","second"] (spI2 Sm (· * ·)))
  (F4:FN P w K mg base 1 "quotient_of" ["first","second"] (spI2 (fun i j=>Sm i j∧j≠0) Int.fdiv)) (F5:FN P w K mg base 1 "rest_of" ["first","second"] (spI2 (fun i j=>Sm i j∧j≠0) Int.fmod)):FN P w K mg base 2 "made_of_two" ["op","first","second"] z3u:=by
 refine FN.o D sc64 fun f cdv A outer s H vs Q E hr h=>?_
 obtain ⟨op,x,y,r1,r2,rfl,hx,hy,hm,q⟩:=h
 refine ⟨_,z8 (zH (zk qe (pv 0) zf (zo _)) (zd (zm (zF (z6 qc (z6 (zp FSm hr rfl (z6 (pv 1) (z6 (pv 2) z7))) z7))))) zu)
  (z8 (zH (PW.pt (Zq (jt (qz (zp FN1 hr rfl (z6 (pv 1) z7)))) (jr (jt (qz (zp FN1 hr rfl (z6 (pv 2) z7))))))) (zd (zm (zF (z6 zf (z6 qc z7))))) zu)
  (z8 (zH (PW.pt (js (zk qB (pv 0) (zF (z6 zf (z6 zf z7))) rfl) (qX (zk qe (pv 2) zc (zo _))))) (zd (zm (zF (z6 zf (z6 qc z7))))) zu)
  (z8h hr G T F1 F2 F3 F4 F5))),?_⟩
 refine ⟨_,rfl,rfl,decide (op="same"),congrArg V.bl qP,?_⟩
 by_cases h0:op="same"
 ·unfold jz at hm
  rw [kq h0] at hm
  cases hm
  rw [kf h0]
  exact iteT ⟨_,rfl,_,rfl,x,y,rfl,hx,hy,by show 2≤sizeLine;decide,fun t ht=>q t _ (zg ht _) zb⟩
 rw [ke h0]
 refine iteF ⟨_,rfl,x,rfl,hx,jb x,rfl,?_⟩
 have typ:jz op x y=some (.str "Type",.non)→∀σ,tTup (qV (tC (.str "Type")) (qV (tC .non) tNil)) σ H Q:=fun e σ=>by
  rw [hm] at e
  cases e
  exact ⟨by show 2≤sizeLine;decide,fun t ht=>q t _ (zg ht _) zb⟩
 cases hnx:jb x with
 | false=>exact iteT (iteT (typ (Ze h0 (.inl hnx)) _))
 | true=>
  refine iteF ⟨_,rfl,y,rfl,hy,jb y,rfl,?_⟩
  cases hny:jb y with
  | false=>exact iteT (typ (Ze h0 (.inr hny)) _)
  | true=>
   refine iteF ?_
   clear typ
   cases hx with
   | int i=>
    cases hy with
    | int j=>
     unfold jz at hm
     rw [ko h0] at hm
     dsimp only at hm
     cases b1:big i with
     | true=>rw [b1,kq rfl] at hm;cases hm
     | false=>
      rw [b1,ko ka] at hm
      cases b2:big j with
      | true=>rw [b2,kq rfl] at hm;cases hm
      | false=>
       rw [b2,ko ka] at hm
       refine ⟨_,rfl,by show 2≤sizeLine;decide,fun p hp=>⟨p,_,rfl,.inr (SqT.of zb),rfl,rfl,inT op ["div","rest"],rfl,?_⟩⟩
       have s1:=zg hp (.tup [.str "div",.str "rest"])
       generalize upd H p (.tup [.str "div",.str "rest"])=H1 at *
       have go:¬((op="div"∨op="rest")∧j=0)→T66 { nx:=fun _ H'=>Q .non H',rt:=Q } [some (.str op),some (.int i),some (.int j),none,none] H1:=fun z=>by
        rw [ko z] at hm
        exact ⟨op,i,j,r1,r2,rfl,⟨b1,b2⟩,hm,fun t H' s' ht=>q t H' (s1.trans s') ht⟩
       cases hin:inT op ["div","rest"] with
       | false=>
        refine iteF (iteF (go fun z=>?_))
        have:inT op ["div","rest"]=true:=jI.mpr (by rcases z.1 with z | z <;> rw [z] <;> decide+kernel)
        rw [hin] at this
        cases this
       | true=>
        have hop:op="div"∨op="rest":=by
         have:=jI.mp hin
         rcases kw.mp this with z | z
         ·exact .inl z
         ·exact .inr (kj.mp z)
        obtain ⟨z,hz⟩:∃z,decide (V.int j=V.int 0)=z:=⟨_,rfl⟩
        refine iteT ⟨_,rfl,rfl,z,congrArg V.bl hz,?_⟩
        cases z with
        | true=>
         have hj:j=0:=by have:=ku hz;injection this
         rw [kq ⟨hop,hj⟩] at hm
         cases hm
         exact iteT ⟨by show 2≤sizeLine;decide,fun t ht=>q t _ (s1.trans (zg ht _)) zb⟩
        | false=>
         have hj:¬j=0:=fun z=>by rw [z] at hz;cases hz
         exact iteF (go fun z=>hj z.2)
    | _=>cases hny
   | _=>cases hnx
def z3v:Sp:=fun vs H Q _=>∃op x r1 r2,vs=[.str op,x]∧Scal x∧J0 op x=some (r1,r2)∧∀t H',Same H H'→H' t=some (.tup [r1,r2])→Q (.ref t) H'
theorem sc65:zn ["op","value"] ["op","value"] (ze (top 65)):=fsM
theorem z5V (D:zt K mg "made_of_one" (top 65)) (FN1:FN P w K mg base 1 "is_number" ["thing"] (sp1 jb)) (FT:FN P w K mg base 1 "is_true" ["value"] z1P):FN P w K mg base 2 "made_of_one" ["op","value"] z3v:=by
 refine FN.o D sc65 fun f cdv A outer s H vs Q E hr h=>?_
 obtain ⟨op,x,r1,r2,rfl,hx,hm,q⟩:=h
 refine ⟨_,z8 (zH (zk qe (pv 0) zf (zo _)) (zd (zm (zF (z6 qc (z6 (z1Y (zp FT hr rfl (z6 (pv 1) z7))) z7))))) zu)
  (z8 (zH (jt (qz (zp FN1 hr rfl (z6 (pv 1) z7)))) (zd (zm (zF (z6 zf (z6 qc z7))))) zu)
  (zd (zm (zF (z6 qc (z6 (JH Zw (pv 1)) z7)))))),?_⟩
 unfold J0 at hm
 refine ⟨_,rfl,rfl,decide (op="not"),congrArg V.bl qP,?_⟩
 by_cases h0:op="not"
 ·rw [kq h0] at hm
  cases hm
  rw [kf h0]
  exact iteT ⟨_,rfl,x,rfl,hx,_,rfl,by show 2≤sizeLine;decide,fun t ht=>q t _ (zg ht _) zb⟩
 rw [ko h0] at hm
 rw [ke h0]
 refine iteF ⟨_,rfl,x,rfl,hx,jb x,rfl,?_⟩
 cases hx with
 | int i=>cases hm;exact iteF ⟨_,rfl,i,rfl,by show 2≤sizeLine;decide,fun t ht=>q t _ (zg ht _) zb⟩
 | non=>cases hm;exact iteT ⟨by show 2≤sizeLine;decide,fun t ht=>q t _ (zg ht _) zb⟩
 | bl b=>cases hm;exact iteT ⟨by show 2≤sizeLine;decide,fun t ht=>q t _ (zg ht _) zb⟩
 | str z hz=>cases hm;exact iteT ⟨by show 2≤sizeLine;decide,fun t ht=>q t _ (zg ht _) zb⟩
end
structure z6k (rs:List Row) (S:Fnd):Prop where
 len:S.length=rs.length
 zero:S[0]?=some (some (0,[]))
 here:∀(p:Nat) r s,rs[p]?=some r→S[p]?=some (some s)→QE rs p r s.1 s.2.getLast?=[]∧s.2.length≤1000
 next:∀(p:Nat) r s,rs[p]?=some r→S[p]?=some (some s)→∀x s',(x,s')∈QY rs p r s→∃j:Nat,x=.int (j:Int)∧S[j]?=some (some s')
def Sub (f S:Fnd):Prop:=∀(p:Nat) s,f[p]?=some (some s)→S[p]?=some (some s)
noncomputable def JO (f:Fnd):Nat:=(f.filter Option.isNone).length
theorem QX:∀{f:Fnd} {j:Nat} {s:Sta},f[j]?=some none→JO (f.set j (some s))+1=JO f
 | [],_,_,h=>by cases h
 | o :: f,0,s,h=>by
  cases h
  rfl
 | o :: f,j+1,s,h=>by
  have ih:=QX (f:=f) (j:=j) (s:=s) h
  unfold JO at ih ⊢
  rw [List.set_cons_succ,List.filter_cons,List.filter_cons]
  cases o with
  | none=>simp only [Option.isNone_none,if_true,kJ];lia
  | some x=>simp only [Option.isNone_some,Bool.false_eq_true,if_false];exact ih
theorem JD {S:Fnd}:∀(ns:List (V × Sta)) (f:Fnd) (w:List Nat),(∀x s',(x,s')∈ns→∃j:Nat,x=.int (j:Int)∧S[j]?=some (some s'))→f.length=S.length→Sub f S→(∀p∈w,∃s,f[p]?=some (some s))→
  ∃f' w',Je ns f w=some (f',w')∧f'.length=S.length∧Sub f' S∧(∀p∈w',∃s,f'[p]?=some (some s))∧JO f'+w'.length=JO f+w.length∧(∀(p:Nat) s,f[p]?=some (some s)→f'[p]?=some (some s))
 | [],f,w,_,hl,hs,hw=>⟨f,w,rfl,hl,hs,hw,rfl,fun _ _ e=>e⟩
 | (x,s) :: ns,f,w,hn,hl,hs,hw=>by
  obtain ⟨j,rfl,hj⟩:=hn x s (kK ..)
  have hjl:j < f.length:=by rw [hl];exact (kd.mp hj).1
  have hn':=fun x s' h=>hn x s' (kL _ h)
  unfold Je
  dsimp only
  rw [kq (by lia),kS]
  cases e:f[j]? with
  | none=>rw [kF hjl] at e;cases e
  | some o=>
   cases o with
   | none=>
    dsimp only
    have keep:∀(p:Nat) s0,f[p]?=some (some s0)→(f.set j (some s))[p]?=some (some s0):=fun p s0 h=>by
     by_cases hp:p=j
     ·subst hp;rw [e] at h;cases h
     ·rw [List.getElem?_set_ne (Ne.symm hp)];exact h
    obtain ⟨f',w',h1,h2,h3,h4,h5,h6⟩:=JD ns (f.set j (some s)) (w++[j]) hn' (by rw [List.length_set];exact hl)
     (fun p s0 h=>by
      by_cases hp:p=j
      ·subst hp
       rw [List.getElem?_set_self hjl] at h
       cases h
       exact hj
      ·rw [List.getElem?_set_ne (Ne.symm hp)] at h
       exact hs p s0 h)
     (fun p hp=>by
      rcases kM.mp hp with h | h
      ·obtain ⟨s0,h⟩:=hw p h
       exact ⟨s0,keep p s0 h⟩
      ·rw [kj.mp h]
       exact ⟨s,List.getElem?_set_self hjl⟩)
    refine ⟨f',w',h1,h2,h3,h4,?_,fun p s0 h=>h6 p s0 (keep p s0 h)⟩
    have:=QX (s:=s) e
    rw [kh,ky] at h5
    lia
   | some s'=>
    have e2:s'=s:=by
     have:=hs j s' e
     rw [hj] at this
     cases this
     rfl
    dsimp only
    rw [kq e2]
    exact JD ns f w hn' hl hs hw
theorem z6E {rs:List Row} {S:Fnd} (T:z6k rs S):∀(n:Nat) (f:Fnd) (w:List Nat),f.length=S.length→Sub f S→(∀p∈w,∃s,f[p]?=some (some s))→JO f+w.length≤n→
  ∃fin,bfs rs n f w=some fin∧fin.length=S.length∧Sub fin S
 | n,f,[],hl,hs,_,_=>⟨f,by cases n <;> rfl,hl,hs⟩
 | 0,f,p :: w,_,_,_,hn=>by simp at hn
 | n+1,f,p :: w,hl,hs,hw,hn=>by
  obtain ⟨s,hp⟩:=hw p (kK ..)
  have hS:=hs p s hp
  have hpl:p < rs.length:=by rw [←T.len];exact (kd.mp hS).1
  have er:rs[p]?=some rs[p]:=kF hpl
  obtain ⟨h1,h2⟩:=T.here p rs[p] s er hS
  unfold bfs
  rw [er,hp]
  dsimp only
  rw [kq ⟨by rw [h1];rfl,h2⟩]
  obtain ⟨f',w',e1,e2,e3,e4,e5,_⟩:=JD (QY rs p rs[p] s) f w (T.next p rs[p] s er hS) hl hs fun q hq=>hw q (kL _ hq)
  rw [e1]
  dsimp only
  rw [kJ] at hn
  exact z6E T n f' w' e2 e3 e4 (by lia)
theorem z0s:∀n:Nat,JO (List.replicate n none)=n
 | 0=>rfl
 | n+1=>by
  have ih:=z0s n
  unfold JO at ih ⊢
  rw [List.replicate_succ,List.filter_cons]
  simp only [Option.isNone_none,if_true,kJ]
  lia
theorem z3o {rs:List Row} {S:Fnd} (T:z6k rs S) (hn:rs.length≤299):∃fin,ZW rs=some fin∧fin.length=rs.length∧Sub fin S:=by
 have h0:0 < rs.length:=by rw [←T.len];exact (kd.mp T.zero).1
 have e0:(List.replicate rs.length (none:Option Sta))[0]?=some none:=by rw [List.getElem?_replicate,kq h0]
 have hset:=QX (s:=((0,[]):Sta)) e0
 rw [z0s] at hset
 obtain ⟨fin,h1,h2,h3⟩:=z6E T 300 ((List.replicate rs.length none).set 0 (some (0,[]))) [0] (by rw [List.length_set,List.length_replicate,T.len])
  (fun p s h=>by
   by_cases hp:p=0
   ·subst hp
    rw [List.getElem?_set_self (by rw [List.length_replicate];exact h0)] at h
    cases h
    exact T.zero
   ·rw [List.getElem?_set_ne (Ne.symm hp),List.getElem?_replicate] at h
    split at h
    ·cases h
    ·cases h)
  (fun p hp=>by
   rw [kj.mp hp]
   exact ⟨_,List.getElem?_set_self (by rw [List.length_replicate];exact h0)⟩)
  (by show JO _+1≤300;lia)
 exact ⟨fin,h1,by rw [h2,T.len],h3⟩
noncomputable def jT (r:Row) (s:Sta):Option Sta:=if inT r.op qG=true then none else some (qr r s.1,qC r s.1 s.2 (tabI qD r.op))
noncomputable def tgts (r:Row) (s:Sta):List (Int × Sta):=
 (if inT r.op jumping=true then [(argM r.arg,((if inT r.op leaving=true then s.1 else qr r s.1),s.2))] else [])++
 (if inT r.op faulting=true then (match s.2.getLast? with
  | some g=>[(g.1,(g.2+1,s.2.dropLast))]
  | none=>[]) else [])
noncomputable def qE (r:Row) (s:Sta):Bool:= !decide (s.1 < qi r)&& !Q5 r s.2.getLast?&& !qI r s.1 s.2.getLast?&&decide (s.2.length≤1000)
noncomputable def chk (Γ:Int→Option Sta):List Row→Option Sta→Option (Option Sta)
 | [],c=>some c
 | r :: l,c=>
  if r.op="label" then (match Γ (argM r.arg),c with
   | some s,some s'=>if s=s'∧qE r s=true then chk Γ l (some s) else none
   | some s,none=>if qE r s=true then chk Γ l (some s) else none
   | none,none=>chk Γ l none
   | none,some _=>none)
  else (match c with
   | none=>chk Γ l none
   | some s=>if qE r s=true∧(tgts r s).all (fun t=>decide (Γ t.1=some t.2))=true then chk Γ l (jT r s) else none)
noncomputable def stOf (Γ:Int→Option Sta):List Row→Option Sta→Fnd
 | [],_=>[]
 | r :: l,c=>
  if r.op="label" then Γ (argM r.arg) :: stOf Γ l (Γ (argM r.arg))
  else c :: stOf Γ l (match c with
   | none=>none
   | some s=>jT r s)
theorem Qu (Γ:Int→Option Sta):∀(l:List Row) (c:Option Sta),(stOf Γ l c).length=l.length
 | [],_=>rfl
 | r :: l,c=>by
  unfold stOf
  split
  ·rw [kJ,Qu Γ l,kJ]
  ·rw [kJ,Qu Γ l,kJ]
theorem jD (Γ:Int→Option Sta) (r:Row) (l:List Row) (c:Option Sta):chk Γ (r :: l) c=
  if r.op="label" then (match Γ (argM r.arg),c with
   | some s,some s'=>if s=s'∧qE r s=true then chk Γ l (some s) else none
   | some s,none=>if qE r s=true then chk Γ l (some s) else none
   | none,none=>chk Γ l none
   | none,some _=>none)
  else (match c with
   | none=>chk Γ l none
   | some s=>if qE r s=true∧(tgts r s).all (fun t=>decide (Γ t.1=some t.2))=true then chk Γ l (jT r s) else none):=rfl
theorem zq (Γ:Int→Option Sta):∀(a b:List Row) (c:Option Sta),chk Γ (a++b) c=(chk Γ a c).bind fun c'=>chk Γ b c'
 | [],b,c=>rfl
 | r :: a,b,c=>by
  rw [List.cons_append,jD,jD]
  by_cases hl:r.op="label"
  ·rw [kq hl,kq hl]
   cases Γ (argM r.arg) with
   | none=>cases c with
    | none=>exact zq Γ a b _
    | some s'=>rfl
   | some s=>cases c with
    | none=>
     dsimp only
     by_cases hz:qE r s=true
     ·rw [kq hz,kq hz];exact zq Γ a b _
     ·rw [ko hz,ko hz];rfl
    | some s'=>
     dsimp only
     by_cases hz:s=s'∧qE r s=true
     ·rw [kq hz,kq hz];exact zq Γ a b _
     ·rw [ko hz,ko hz];rfl
  ·rw [ko hl,ko hl]
   cases c with
   | none=>exact zq Γ a b _
   | some s=>
    dsimp only
    by_cases hz:qE r s=true∧(tgts r s).all (fun t=>decide (Γ t.1=some t.2))=true
    ·rw [kq hz,kq hz];exact zq Γ a b _
    ·rw [ko hz,ko hz];rfl
structure Fits (Γ:Int→Option Sta) (l:List Row) (S:Fnd) (i:Nat) (r:Row) (s:Sta):Prop where
 ok:qE r s=true
 tg:∀t∈tgts r s,Γ t.1=some t.2
 nx:∀s',jT r s=some s'→S[i+1]?=some (some s')
theorem z1t:inT "label" qG=false:=by trivial
theorem z2L (r:Row) (h:r.op="label") (s:Sta):jT r s=some s:=by
 unfold jT
 rw [h,z1t,ko ka]
 unfold qr
 rw [h]
 have e1:tabI qM "label"=0:=by trivial
 have e2:tabI qK "label"=0:=by trivial
 have e3:tabI qD "label"=0:=by trivial
 rw [e1,e2,e3]
 unfold qC
 rw [ko (by decide),ko (by decide)]
 simp
theorem z2K (r:Row) (h:r.op="label") (s:Sta):tgts r s=[]:=by
 unfold tgts
 have e1:inT "label" jumping=false:=by trivial
 have e2:inT "label" faulting=false:=by trivial
 rw [h,e1,e2,ko ka,ko ka]
 rfl
theorem z1a {Γ:Int→Option Sta} {l:List Row} {s:Sta} {c':Option Sta} (h:chk Γ l (some s)=some c') (hc:c'=none):(stOf Γ l (some s))[0]?=some (some s):=by
 cases l with
 | nil=>cases h;cases hc
 | cons r l=>
  unfold chk at h
  unfold stOf
  by_cases hl:r.op="label"
  ·rw [kq hl] at h
   rw [kq hl]
   cases e:Γ (argM r.arg) with
   | none=>rw [e] at h;cases h
   | some s2=>
    rw [e] at h
    dsimp only at h
    by_cases hz:s2=s∧qE r s2=true
    ·rw [hz.1];rfl
    ·rw [ko hz] at h;cases h
  ·rw [ko hl]
   rfl
theorem QC {Γ:Int→Option Sta}:∀(l:List Row) (c:Option Sta),chk Γ l c=some none→∀(i:Nat) r s,l[i]?=some r→(stOf Γ l c)[i]?=some (some s)→Fits Γ l (stOf Γ l c) i r s
 | [],_,_,i,r,s,hr,_=>by cases hr
 | r0 :: l,c,h,i,r,s,hr,hs=>by
  unfold chk at h
  unfold stOf at hs ⊢
  by_cases hl:r0.op="label"
  ·rw [kq hl] at h hs ⊢
   have go:∀{c2:Option Sta},Γ (argM r0.arg)=c2→chk Γ l c2=some none→(∀s0,c2=some s0→qE r0 s0=true)→Fits Γ (r0 :: l) (Γ (argM r0.arg) :: stOf Γ l (Γ (argM r0.arg))) i r s:=by
    intro c2 e h2 hok
    rw [e] at hs ⊢
    cases i with
    | zero=>
     cases hr
     have es:c2=some s:=by simpa using hs
     subst es
     refine ⟨hok s rfl,fun t ht=>?_,fun s' hn=>?_⟩
     ·rw [z2K r0 hl] at ht;cases ht
     ·rw [z2L r0 hl] at hn
      cases hn
      exact z1a h2 rfl
    | succ i=>
     have F:=QC l c2 h2 i r s hr hs
     exact ⟨F.ok,F.tg,F.nx⟩
   cases e:Γ (argM r0.arg) with
   | none=>
    rw [e] at h
    cases c with
    | some s'=>cases h
    | none=>have:=go e h (fun _ z=>by cases z);rw [e] at this;exact this
   | some s2=>
    rw [e] at h
    cases c with
    | some s'=>
     dsimp only at h
     by_cases hz:s2=s'∧qE r0 s2=true
     ·rw [kq hz] at h
      have:=go e h (fun _ z=>by cases z;exact hz.2);rw [e] at this;exact this
     ·rw [ko hz] at h;cases h
    | none=>
     dsimp only at h
     by_cases hz:qE r0 s2=true
     ·rw [kq hz] at h
      have:=go e h (fun _ z=>by cases z;exact hz);rw [e] at this;exact this
     ·rw [ko hz] at h;cases h
  ·rw [ko hl] at h hs ⊢
   cases c with
   | none=>
    dsimp only at h hs ⊢
    cases i with
    | zero=>cases hs
    | succ i=>
     have F:=QC l none h i r s hr hs
     exact ⟨F.ok,F.tg,F.nx⟩
   | some s0=>
    dsimp only at h hs ⊢
    by_cases hz:qE r0 s0=true∧(tgts r0 s0).all (fun t=>decide (Γ t.1=some t.2))=true
    case neg=>rw [ko hz] at h;cases h
    rw [kq hz] at h
    cases i with
    | zero=>
     cases hr
     cases hs
     refine ⟨hz.1,fun t ht=>ku (List.all_eq_true.mp hz.2 t ht),fun s' hn=>?_⟩
     rw [hn] at h ⊢
     exact z1a h rfl
    | succ i=>
     have F:=QC l _ h i r s hr hs
     exact ⟨F.ok,F.tg,F.nx⟩
theorem Jz {Γ:Int→Option Sta}:∀(l:List Row) (c:Option Sta) (q:Nat) (r:Row),l[q]?=some r→r.op="label"→(stOf Γ l c)[q]?=some (Γ (argM r.arg))
 | [],_,_,_,h,_=>by cases h
 | r0 :: l,c,0,r,h,hl=>by
  cases h
  unfold stOf
  rw [kq hl]
  rfl
 | r0 :: l,c,q+1,r,h,hl=>by
  unfold stOf
  split
  ·exact Jz l _ q r h hl
  ·exact Jz l _ q r h hl
theorem z8z {rs:List Row} {m:Int} {q:Nat} (h:zZ rs m=some q):∃r,rs[q]?=some r∧r.op="label"∧argM r.arg=m:=by
 unfold zZ at h
 obtain ⟨hq,hp,_⟩:=List.findIdx?_eq_some_iff_getElem.mp h
 refine ⟨rs[q],kF hq,?_⟩
 unfold labP at hp
 rw [kX,kY,kY] at hp
 exact ⟨hp.1,by rw [hp.2];rfl⟩
theorem z55 {rs:List Row} {Γ:Int→Option Sta} (hΓ:∀m s,Γ m=some s→(zZ rs m).isSome=true) (h:chk Γ rs (some (0,[]))=some none):z6k rs (stOf Γ rs (some (0,[]))):=by
 have hlab:∀m s,Γ m=some s→∃q:Nat,labV rs m=.int (q:Int)∧q < rs.length∧(stOf Γ rs (some (0,[])))[q]?=some (some s):=by
  intro m s e
  obtain ⟨q,hq⟩:=Option.isSome_iff_exists.mp (hΓ m s e)
  obtain ⟨r,hr,ho,ha⟩:=z8z hq
  refine ⟨q,by unfold labV;rw [hq],(kd.mp hr).1,?_⟩
  rw [Jz rs _ q r hr ho,ha,e]
 have F:=QC rs (some (0,[])) h
 have lead:∀(p:Nat) r s,rs[p]?=some r→(stOf Γ rs (some (0,[])))[p]?=some (some s)→∀m∈ja rs p r s.1 s.2.getLast?,∃j:Nat,m.1=.int (j:Int)∧j < rs.length∧(stOf Γ rs (some (0,[])))[j]?=some (some (m.2.1,qC r s.1 s.2 m.2.2)):=by
  intro p r s hr hs m hm
  have f:=F p r s hr hs
  have hok:=f.ok
  unfold qE at hok
  simp only [kX,Bool.not_eq_true',kY,decide_eq_false_iff_not] at hok
  obtain ⟨⟨⟨k1,k2⟩,k3⟩,k4⟩:=hok
  unfold ja at hm
  rw [ke k1,ko ka,k2,ko ka] at hm
  rcases kM.mp hm with hm | hm
  ·rcases kM.mp hm with hm | hm
   ·unfold mv1 at hm
    by_cases hn:inT r.op qG=true
    ·rw [kq hn] at hm;cases hm
    ·rw [ko hn] at hm
     rw [kj.mp hm]
     have e:=f.nx (qr r s.1,qC r s.1 s.2 (tabI qD r.op)) (by unfold jT;rw [ko hn])
     refine ⟨p+1,by push_cast;rfl,?_,e⟩
     have:=(kd.mp e).1
     rw [Qu] at this
     exact this
   ·unfold mv2 at hm
    by_cases hj:inT r.op jumping=true
    ·rw [kq hj] at hm
     rw [kj.mp hm]
     obtain ⟨q,h1,h2,h3⟩:=hlab _ _ (f.tg (argM r.arg,((if inT r.op leaving=true then s.1 else qr r s.1),s.2)) (by
      unfold tgts
      rw [kq hj]
      exact kI _ (kj.mpr rfl)))
     refine ⟨q,h1,h2,?_⟩
     have e0:qC r s.1 s.2 0=s.2:=by unfold qC;rw [ko (by decide),ko (by decide)]
     show _=some (some ((if inT r.op leaving=true then s.1 else qr r s.1),qC r s.1 s.2 0))
     rw [e0]
     exact h3
    ·rw [ko hj] at hm;cases hm
  ·unfold mv3 at hm
   by_cases hf:inT r.op faulting=true
   ·rw [kq hf] at hm
    cases hg:s.2.getLast? with
    | none=>rw [hg] at hm;cases hm
    | some g=>
     rw [hg] at hm
     rw [kj.mp hm]
     obtain ⟨q,h1,h2,h3⟩:=hlab _ _ (f.tg (g.1,(g.2+1,s.2.dropLast)) (by
      unfold tgts
      rw [kq hf,hg]
      exact kH _ (kj.mpr rfl)))
     refine ⟨q,h1,h2,?_⟩
     have e0:qC r s.1 s.2 (-1)=s.2.dropLast:=by unfold qC;rw [ko (by decide),kq rfl]
     show _=some (some (g.2+1,qC r s.1 s.2 (-1)))
     rw [e0]
     exact h3
   ·rw [ko hf] at hm;cases hm
 refine ⟨Qu _ _ _,z1a h rfl,fun p r s hr hs=>?_,fun p r s hr hs x s' hx=>?_⟩
 ·have hok:=(F p r s hr hs).ok
  unfold qE at hok
  simp only [kX,Bool.not_eq_true',kY,decide_eq_false_iff_not] at hok
  obtain ⟨⟨⟨k1,k2⟩,k3⟩,k4⟩:=hok
  refine ⟨?_,k4⟩
  have hend:inV (.int (rs.length:Nat)) ((ja rs p r s.1 s.2.getLast?).map (·.1))=false:=by
   unfold inV
   rw [List.any_eq_false]
   intro y hy
   obtain ⟨m,hm,rfl⟩:=List.mem_map.mp hy
   obtain ⟨j,h1,h2,_⟩:=lead p r s hr hs m hm
   rw [h1]
   intro z
   have z:decide ((j:Int)=(rs.length:Int))=true:=by
    first
     | exact z
     | simpa [eqV] using z
   have:=ku z
   lia
  unfold QE QF
  rw [ke k1,k2,k3,hend]
  rfl
 ·unfold QY at hx
  obtain ⟨m,hm,e⟩:=List.mem_map.mp hx
  cases e
  obtain ⟨j,h1,_,h3⟩:=lead p r s hr hs m hm
  exact ⟨j,h1,h3⟩
structure GOk (d:Int) (gs:List Gd) (n:Nat):Prop where
 pos:0≤d
 len:gs.length+n≤1000
 top:∀g,gs.getLast?=some g→g.2≤d
def GEnv (Γ:Int→Option Sta) (gs:List Gd):Prop:=∀g,gs.getLast?=some g→Γ g.1=some (g.2+1,gs.dropLast)
def Ext (Γ Γl:Int→Option Sta) (k k':Nat):Prop:=∀m:Nat,k≤m→m < k'→Γ (m:Int)=Γl (m:Int)
structure Ty (δ:Int) (sure:Bool) (k k':Nat) (l:List Row):Prop where
 go:∀d gs,GOk d gs l.length→∃(Γl:Int→Option Sta) (c':Option Sta),(c'=some (d+δ,gs)∨(sure=false∧c'=none))∧∀Γ,Ext Γ Γl k k'→GEnv Γ gs→chk Γ l (some (d,gs))=some c'
 off:∀Γ:Int→Option Sta,(∀m:Nat,k≤m→m < k'→Γ (m:Int)=none)→chk Γ l none=some none
theorem Ty.nil (k:Nat):Ty 0 true k k []:=⟨fun d gs _=>⟨fun _=>none,some (d,gs),.inl (by rw [Int.add_zero]),fun _ _ _=>rfl⟩,fun _ _=>rfl⟩
theorem Ty.app {δ1 δ2:Int} {s1 s2:Bool} {k k1 k2:Nat} {a b:List Row} (x:Ty δ1 s1 k k1 a) (y:Ty δ2 s2 k1 k2 b) (h1:k≤k1) (h2:k1≤k2) (hp:0≤δ1):Ty (δ1+δ2) (s1&&s2) k k2 (a++b):=by
 refine ⟨fun d gs hg=>?_,fun Γ hΓ=>?_⟩
 ·have hl:=hg.len
  rw [kh] at hl
  obtain ⟨Γa,ca,hca,ha⟩:=x.go d gs ⟨hg.pos,by lia,hg.top⟩
  have mix:∀Γb:Int→Option Sta,∃Γl:Int→Option Sta,∀Γ,Ext Γ Γl k k2→Ext Γ Γa k k1∧Ext Γ Γb k1 k2:=fun Γb=>
   ⟨fun m=>if m < (k1:Int) then Γa m else Γb m,fun Γ h=>⟨fun m m1 m2=>(h m m1 (by lia)).trans (kq (by lia)),fun m m1 m2=>(h m (by lia) m2).trans (ko (by lia))⟩⟩
  rcases hca with rfl | ⟨hs,rfl⟩
  ·obtain ⟨Γb,cb,hcb,hb⟩:=y.go (d+δ1) gs ⟨by have:=hg.pos;lia,by lia,fun g e=>by have:=hg.top g e;lia⟩
   obtain ⟨Γl,hm⟩:=mix Γb
   refine ⟨Γl,cb,?_,fun Γ he hE=>?_⟩
   ·rcases hcb with h | ⟨h,h'⟩
    ·exact .inl (by rw [h,Int.add_assoc])
    ·exact .inr ⟨by rw [h,Bool.and_false],h'⟩
   ·obtain ⟨e1,e2⟩:=hm Γ he
    rw [zq,ha Γ e1 hE]
    exact hb Γ e2 hE
  ·obtain ⟨Γl,hm⟩:=mix fun _=>none
   refine ⟨Γl,none,.inr ⟨by rw [hs,Bool.false_and],rfl⟩,fun Γ he hE=>?_⟩
   obtain ⟨e1,e2⟩:=hm Γ he
   rw [zq,ha Γ e1 hE]
   exact y.off Γ e2
 ·rw [zq,x.off Γ fun m m1 m2=>hΓ m m1 (by lia)]
  exact y.off Γ fun m m1 m2=>hΓ m (by lia) m2
theorem jg {Γ:Int→Option Sta} {r:Row} {s:Sta} (hl:r.op≠"label") (ho:qE r s=true) (ht:∀t∈tgts r s,Γ t.1=some t.2):chk Γ [r] (some s)=some (jT r s):=by
 rw [jD,ko hl]
 dsimp only
 rw [kq ⟨ho,List.all_eq_true.mpr fun t h=>kf (ht t h)⟩]
 rfl
theorem zC {Γ:Int→Option Sta} {r:Row} (hl:r.op≠"label"):chk Γ [r] none=some none:=by
 rw [jD,ko hl]
 rfl
theorem jj {r:Row} {d:Int} {gs:List Gd} (h1:qi r≤d) (h2:∀g,gs.getLast?=some g→g.2≤d - qi r) (h3:r.op≠"endtry") (h4:gs.length≤1000):qE r (d,gs)=true:=by
 unfold qE Q5
 have e1:decide (d < qi r)=false:=ke (by lia)
 have e2:qI r d gs.getLast?=false:=by
  unfold qI
  cases e:gs.getLast? with
  | none=>rfl
  | some g=>
   have:=h2 g e
   dsimp only
   split
   ·rfl
   ·refine ke ?_
    split <;> split <;> lia
 show (!decide (d < qi r)&& !(decide (r.op="endtry")&&gs.getLast?.isNone)&& !qI r d gs.getLast?&&decide (gs.length≤1000))=true
 rw [e1,e2,ke h3,kf h4]
 rfl
structure jQ (op:Str) (a b:Int):Prop where
 lab:op≠"label"
 et:op≠"endtry"
 deep:inT op jx=false
 takes:tabI qM op=a
 pushes:tabI qK op=b
 on:inT op qG=false
 jump:inT op jumping=false
 gput:tabI qD op=0
theorem jQ.asked {op:Str} {a b:Int} (h:jQ op a b) (arg:V) (l:Int):qi ⟨op,arg,l⟩=a:=by
 unfold qi
 rw [h.deep,ko ka]
 exact h.takes
theorem jQ.chk {op:Str} {a b:Int} (h:jQ op a b) {Γ:Int→Option Sta} {d:Int} {gs:List Gd} (arg:V) (l:Int) (hd:a≤d) (hg:∀g,gs.getLast?=some g→g.2≤d - a) (hz:gs.length≤1000) (hE:GEnv Γ gs):
  chk Γ [⟨op,arg,l⟩] (some (d,gs))=some (some (d - a+b,gs)):=by
 rw [jg h.lab (jj (by rw [h.asked];exact hd) (by rw [h.asked];exact hg) h.et hz)]
 ·unfold jT
  rw [h.on,ko ka]
  unfold qr qC
  rw [h.takes,h.pushes,h.gput,ko (by decide),ko (by decide)]
 ·intro t ht
  unfold tgts at ht
  rw [h.jump,ko ka,List.nil_append] at ht
  by_cases hf:inT op faulting=true
  ·rw [kq hf] at ht
   cases e:gs.getLast? with
   | none=>
    rw [show ((d,gs):Sta).2.getLast?=none from e] at ht
    cases ht
   | some g=>
    rw [show ((d,gs):Sta).2.getLast?=some g from e] at ht
    rw [kj.mp ht]
    exact hE g e
  ·rw [ko hf] at ht;cases ht
theorem Ty.row {δ:Int} {k k':Nat} {l:List Row} (x:Ty δ true k k' l) {op:Str} {a b:Int} (h:jQ op a b) (hd:a≤δ) (arg:V) (ln:Int):Ty (δ - a+b) true k k' (l++[⟨op,arg,ln⟩]):=by
 refine ⟨fun d gs hg=>?_,fun Γ hΓ=>?_⟩
 ·have hl:=hg.len
  rw [kh,ky] at hl
  obtain ⟨Γa,ca,hca,ha⟩:=x.go d gs ⟨hg.pos,by lia,hg.top⟩
  have hca:ca=some (d+δ,gs):=by
   rcases hca with h | ⟨h,_⟩
   ·exact h
   ·cases h
  subst hca
  refine ⟨Γa,some (d+(δ - a+b),gs),.inl rfl,fun Γ he hE=>?_⟩
  rw [zq,ha Γ he hE]
  show My.chk Γ [⟨op,arg,ln⟩] (some (d+δ,gs))=_
  rw [h.chk arg ln (by have:=hg.pos;lia) (fun g e=>by have:=hg.top g e;lia) (by lia) hE]
  congr 3
  lia
 ·rw [zq,x.off Γ hΓ]
  exact zC h.lab
theorem jf:jQ "push" 0 1:=⟨by trivial,by trivial,by trivial,by trivial,by trivial,by trivial,by trivial,by trivial⟩
theorem z1o:jQ "load" 0 1:=⟨by trivial,by trivial,by trivial,by trivial,by trivial,by trivial,by trivial,by trivial⟩
theorem ZD:∀op∈(["add","sub","mul","div","rest","less","same"]:List Str),jQ op 2 1:=by
 intro op h
 simp only [kw,kl,or_false] at h
 rcases h with rfl | rfl | rfl | rfl | rfl | rfl | rfl
 all_goals exact ⟨by trivial,by trivial,by trivial,by trivial,by trivial,by trivial,by trivial,by trivial⟩
theorem z1W:∀op∈(["neg","not"]:List Str),jQ op 1 1:=by
 intro op h
 simp only [kw,kl,or_false] at h
 rcases h with rfl | rfl
 all_goals exact ⟨by trivial,by trivial,by trivial,by trivial,by trivial,by trivial,by trivial,by trivial⟩
theorem j3:∀op∈(["drop","tell","store"]:List Str),jQ op 1 0:=by
 intro op h
 simp only [kw,kl,or_false] at h
 rcases h with rfl | rfl | rfl
 all_goals exact ⟨by trivial,by trivial,by trivial,by trivial,by trivial,by trivial,by trivial,by trivial⟩
theorem z5g:jQ "clear" 0 0:=⟨by trivial,by trivial,by trivial,by trivial,by trivial,by trivial,by trivial,by trivial⟩
structure Op (op:Str) (a b g:Int) (on jump leave fault:Bool):Prop where
 deep:inT op jx=false
 takes:tabI qM op=a
 pushes:tabI qK op=b
 gput:tabI qD op=g
 on:inT op qG= !on
 jump:inT op jumping=jump
 leave:inT op leaving=leave
 fault:inT op faulting=fault
theorem Op.asked {op:Str} {a b g:Int} {on j lv f:Bool} (h:Op op a b g on j lv f) (arg:V) (l:Int):qi ⟨op,arg,l⟩=a:=by
 unfold qi
 rw [h.deep,ko ka]
 exact h.takes
theorem Op.next {op:Str} {a b g:Int} {on j lv f:Bool} (h:Op op a b g on j lv f) (arg:V) (l:Int) (s:Sta):jT ⟨op,arg,l⟩ s=if on=true then some (s.1 - a+b,qC ⟨op,arg,l⟩ s.1 s.2 g) else none:=by
 unfold jT qr
 rw [h.on,h.takes,h.pushes,h.gput]
 cases on <;> rfl
theorem Op.tg {op:Str} {a b g:Int} {on j lv f:Bool} (h:Op op a b g on j lv f) {Γ:Int→Option Sta} {m:Int} {l:Int} {d:Int} {gs:List Gd} (hj:j=true→Γ m=some ((if lv=true then d else d - a+b),gs)) (hf:f=true→GEnv Γ gs):∀t∈tgts ⟨op,.int m,l⟩ (d,gs),Γ t.1=some t.2:=by
 intro t ht
 unfold tgts qr at ht
 rw [h.jump,h.leave,h.fault,h.takes,h.pushes] at ht
 rcases kM.mp ht with ht | ht
 ·cases j with
  | false=>cases ht
  | true=>
   rw [kq rfl] at ht
   rw [kj.mp ht]
   exact hj rfl
 ·cases f with
  | false=>cases ht
  | true=>
   rw [kq rfl] at ht
   cases e:gs.getLast? with
   | none=>rw [show ((d,gs):Sta).2.getLast?=none from e] at ht;cases ht
   | some g=>
    rw [show ((d,gs):Sta).2.getLast?=some g from e] at ht
    rw [kj.mp ht]
    exact hf rfl g e
theorem z5q:∀op∈(["ortrue","orfalse"]:List Str),Op op 1 0 0 true true true false∧op≠"label"∧op≠"endtry":=by
 intro op h
 simp only [kw,kl,or_false] at h
 rcases h with rfl | rfl
 all_goals exact ⟨⟨by trivial,by trivial,by trivial,by trivial,by trivial,by trivial,by trivial,by trivial⟩,by trivial,by trivial⟩
theorem z5r:∀op∈(["iftrue","iffalse"]:List Str),Op op 1 0 0 true true false false∧op≠"label"∧op≠"endtry":=by
 intro op h
 simp only [kw,kl,or_false] at h
 rcases h with rfl | rfl
 all_goals exact ⟨⟨by trivial,by trivial,by trivial,by trivial,by trivial,by trivial,by trivial,by trivial⟩,by trivial,by trivial⟩
theorem JM:Op "jump" 0 0 0 false true false false:=⟨by trivial,by trivial,by trivial,by trivial,by trivial,by trivial,by trivial,by trivial⟩
theorem z1Z:Op "try" 0 0 1 true false false false:=⟨by trivial,by trivial,by trivial,by trivial,by trivial,by trivial,by trivial,by trivial⟩
theorem Z4:Op "endtry" 0 0 (-1) true false false false:=⟨by trivial,by trivial,by trivial,by trivial,by trivial,by trivial,by trivial,by trivial⟩
theorem ZF:Op "raise" 1 0 0 false false false true:=⟨by trivial,by trivial,by trivial,by trivial,by trivial,by trivial,by trivial,by trivial⟩
theorem Z3:Op "return" 1 0 0 false false false false:=⟨by trivial,by trivial,by trivial,by trivial,by trivial,by trivial,by trivial,by trivial⟩
theorem z20:Op "label" 0 0 0 true false false false:=⟨by trivial,by trivial,by trivial,by trivial,by trivial,by trivial,by trivial,by trivial⟩
theorem gs0 (r:Row) (d:Int) (gs:List Gd):qC r d gs 0=gs:=by unfold qC;rw [ko (by decide),ko (by decide)]
section
variable {Γ:Int→Option Sta} {d m l:Int} {gs:List Gd}
theorem z4Q {op:Str} (h:op∈(["ortrue","orfalse"]:List Str)) (h0:0≤d) (ht:∀g,gs.getLast?=some g→g.2≤d) (hz:gs.length≤1000) (hΓ:Γ m=some (d+1,gs)):chk Γ [⟨op,.int m,l⟩] (some (d+1,gs))=some (some (d,gs)):=by
 obtain ⟨o,h1,h2⟩:=z5q op h
 rw [jg h1 (jj (by rw [o.asked];lia) (fun g e=>by rw [o.asked];have:=ht g e;lia) h2 hz) (o.tg (fun _=>hΓ) nofun),o.next,kq rfl,gs0]
 congr 3
 show d+1 - 1+0=d
 lia
theorem z2l {op:Str} (h:op∈(["iftrue","iffalse"]:List Str)) (h0:0≤d) (ht:∀g,gs.getLast?=some g→g.2≤d) (hz:gs.length≤1000) (hΓ:Γ m=some (d,gs)):chk Γ [⟨op,.int m,l⟩] (some (d+1,gs))=some (some (d,gs)):=by
 obtain ⟨o,h1,h2⟩:=z5r op h
 have e:d+1 - 1+0=d:=by lia
 rw [jg h1 (jj (by rw [o.asked];lia) (fun g e=>by rw [o.asked];have:=ht g e;lia) h2 hz) (o.tg (fun _=>by rw [ko ka,e];exact hΓ) nofun),o.next,kq rfl,gs0]
 congr 3
theorem Zj (h0:0≤d) (ht:∀g,gs.getLast?=some g→g.2≤d) (hz:gs.length≤1000) (hΓ:Γ m=some (d,gs)):chk Γ [⟨"jump",.int m,l⟩] (some (d,gs))=some none:=by
 have e:d - 0+0=d:=by lia
 rw [jg (show ("jump":Str)≠"label" by trivial) (jj (by rw [JM.asked];lia) (fun g e=>by rw [JM.asked];have:=ht g e;lia) (show ("jump":Str)≠"endtry" by trivial) hz) (JM.tg (fun _=>by rw [ko ka,e];exact hΓ) nofun),JM.next]
 rfl
theorem z4P (h0:0≤d) (ht:∀g,gs.getLast?=some g→g.2≤d) (hz:gs.length≤1000):chk Γ [⟨"try",.int m,l⟩] (some (d,gs))=some (some (d,gs++[(m,d)])):=by
 rw [jg (show ("try":Str)≠"label" by trivial) (jj (by rw [z1Z.asked];lia) (fun g e=>by rw [z1Z.asked];have:=ht g e;lia) (show ("try":Str)≠"endtry" by trivial) hz) (z1Z.tg nofun nofun),z1Z.next,kq rfl]
 unfold qC
 rw [kq rfl]
 congr 3
 show d - 0+0=d
 lia
theorem Jv {g:Gd} (h0:0≤d) (ht:g.2≤d) (hz:gs.length+1≤1000):chk Γ [⟨"endtry",.non,l⟩] (some (d,gs++[g]))=some (some (d,gs)):=by
 have hl:(gs++[g]).getLast?=some g:=by rw [List.getLast?_append];rfl
 have ho:qE ⟨"endtry",.non,l⟩ (d,gs++[g])=true:=by
  unfold qE Q5
  have e1:decide (d < qi ⟨"endtry",.non,l⟩)=false:=ke (by rw [Z4.asked];lia)
  have e2:qI ⟨"endtry",.non,l⟩ d (some g)=false:=by
   unfold qI
   dsimp only
   rw [Z4.asked]
   split
   ·rfl
   ·refine ke ?_
    split <;> split <;> lia
  show (!decide (d < qi ⟨"endtry",.non,l⟩)&& !(decide (("endtry":Str)="endtry")&&(gs++[g]).getLast?.isNone)&& !qI ⟨"endtry",.non,l⟩ d (gs++[g]).getLast?&&decide ((gs++[g]).length≤1000))=true
  rw [hl,e1,e2,kf (show (gs++[g]).length≤1000 by rw [kh];exact hz)]
  rfl
 rw [jg (show ("endtry":Str)≠"label" by trivial) ho ?_,Z4.next,kq rfl]
 ·unfold qC
  rw [ko (by decide),kq rfl,kC]
  congr 3
  show d - 0+0=d
  lia
 ·intro t ht
  unfold tgts at ht
  rw [Z4.jump,Z4.fault] at ht
  cases ht
theorem z0V (h0:0≤d) (ht:∀g,gs.getLast?=some g→g.2≤d) (hz:gs.length≤1000) (hE:GEnv Γ gs):chk Γ [⟨"raise",.non,l⟩] (some (d+1,gs))=some none:=by
 rw [jg (show ("raise":Str)≠"label" by trivial) (jj (by rw [ZF.asked];lia) (fun g e=>by rw [ZF.asked];have:=ht g e;lia) (show ("raise":Str)≠"endtry" by trivial) hz) ?_,ZF.next]
 ·rfl
 ·intro t ht
  unfold tgts at ht
  rw [ZF.jump,ZF.fault,ko ka,kq rfl,List.nil_append] at ht
  cases e:gs.getLast? with
  | none=>rw [show ((d+1,gs):Sta).2.getLast?=none from e] at ht;cases ht
  | some g=>
   rw [show ((d+1,gs):Sta).2.getLast?=some g from e] at ht
   rw [kj.mp ht]
   exact hE g e
theorem z39 (h0:0≤d) (ht:∀g,gs.getLast?=some g→g.2≤d) (hz:gs.length≤1000):chk Γ [⟨"return",.non,l⟩] (some (d+1,gs))=some none:=by
 rw [jg (show ("return":Str)≠"label" by trivial) (jj (by rw [Z3.asked];lia) (fun g e=>by rw [Z3.asked];have:=ht g e;lia) (show ("return":Str)≠"endtry" by trivial) hz) ?_,Z3.next]
 ·rfl
 ·intro t ht
  unfold tgts at ht
  rw [Z3.jump,Z3.fault] at ht
  cases ht
theorem qm {c:Option Sta} (h0:0≤d) (ht:∀g,gs.getLast?=some g→g.2≤d) (hz:gs.length≤1000) (hΓ:Γ m=some (d,gs)) (hc:c=none∨c=some (d,gs)):chk Γ [⟨"label",.int m,l⟩] c=some (some (d,gs)):=by
 have ho:qE ⟨"label",.int m,l⟩ (d,gs)=true:=jj (by rw [z20.asked];lia) (fun g e=>by rw [z20.asked];have:=ht g e;lia) (show ("label":Str)≠"endtry" by trivial) hz
 rw [jD,kq rfl,show Γ (argM (.int m))=some (d,gs) from hΓ]
 rcases hc with rfl | rfl
 ·dsimp only
  rw [kq ho]
  rfl
 ·dsimp only
  rw [kq ⟨rfl,ho⟩]
  rfl
theorem zK (hΓ:Γ m=none):chk Γ [⟨"label",.int m,l⟩] none=some none:=by
 rw [jD,kq rfl,show Γ (argM (.int m))=none from hΓ]
 rfl
end
theorem Ty.sure {δ:Int} {k k':Nat} {l:List Row} (x:Ty δ true k k' l) {d:Int} {gs:List Gd} (hg:GOk d gs l.length):∃Γl:Int→Option Sta,∀Γ,Ext Γ Γl k k'→GEnv Γ gs→chk Γ l (some (d,gs))=some (some (d+δ,gs)):=by
 obtain ⟨Γl,c',h,q⟩:=x.go d gs hg
 rcases h with h | ⟨h,_⟩
 ·rw [h] at q;exact ⟨Γl,q⟩
 ·cases h
theorem Ty.orv {k k1 k2:Nat} {l1 l2:List Row} (x:Ty 1 true (k+1) k1 l1) (y:Ty 1 true k1 k2 l2) (h1:k+1≤k1) (h2:k1≤k2) {op:Str} (ho:op∈(["ortrue","orfalse"]:List Str)) (a b:Int):
  Ty 1 true k k2 (l1++[⟨op,.int (k:Int),a⟩]++l2++[⟨"label",.int (k:Int),b⟩]):=by
 refine ⟨fun d gs hg=>?_,fun Γ hΓ=>?_⟩
 ·have hl:=hg.len
  simp only [kh,ky] at hl
  obtain ⟨Γ1,q1⟩:=x.sure (d:=d) (gs:=gs) ⟨hg.pos,by lia,hg.top⟩
  obtain ⟨Γ2,q2⟩:=y.sure (d:=d) (gs:=gs) ⟨hg.pos,by lia,hg.top⟩
  refine ⟨fun m=>if m=(k:Int) then some (d+1,gs) else if m < (k1:Int) then Γ1 m else Γ2 m,some (d+1,gs),.inl rfl,fun Γ he hE=>?_⟩
  have ek:Γ (k:Int)=some (d+1,gs):=(he k (kc _) (by lia)).trans (kq rfl)
  have e1:Ext Γ Γ1 (k+1) k1:=fun m m1 m2=>(he m (by lia) (by lia)).trans ((ko (by lia)).trans (kq (by lia)))
  have e2:Ext Γ Γ2 k1 k2:=fun m m1 m2=>(he m (by lia) (by lia)).trans ((ko (by lia)).trans (ko (by lia)))
  have t1:∀g,gs.getLast?=some g→g.2≤d+1:=fun g e=>by have:=hg.top g e;lia
  rw [zq,zq,zq,q1 Γ e1 hE,kb,z4Q ho hg.pos hg.top (by lia) ek,kb,q2 Γ e2 hE,kb]
  exact qm (by have:=hg.pos;lia) t1 (by lia) ek (.inr rfl)
 ·have ek:Γ (k:Int)=none:=hΓ k (kc _) (by lia)
  rw [zq,zq,zq,x.off Γ fun m m1 m2=>hΓ m (by lia) (by lia),kb,zC (z5q op ho).2.1,kb,y.off Γ fun m m1 m2=>hΓ m (by lia) m2,kb]
  exact zK ek
theorem Ty.triedv {k k':Nat} {l:List Row} (x:Ty 1 true (k+2) k' l) (h1:k+2≤k') (a b c e f:Int):
  Ty 1 true k k' ([⟨"try",.int (k:Int),a⟩]++l++[⟨"endtry",.non,b⟩]++[⟨"jump",.int ((k+1:Nat):Int),c⟩]++[⟨"label",.int (k:Int),e⟩]++[⟨"label",.int ((k+1:Nat):Int),f⟩]):=by
 refine ⟨fun d gs hg=>?_,fun Γ hΓ=>?_⟩
 ·have hl:=hg.len
  simp only [kh,ky] at hl
  have hlast:(gs++[((k:Int),d)]).getLast?=some ((k:Int),d):=by rw [List.getLast?_append];rfl
  obtain ⟨Γ1,q1⟩:=x.sure (d:=d) (gs:=gs++[((k:Int),d)]) ⟨hg.pos,by rw [kh,ky];lia,fun g z=>by rw [hlast] at z;cases z;exact Int.le_refl _⟩
  refine ⟨fun m=>if m=(k:Int) then some (d+1,gs) else if m=((k+1:Nat):Int) then some (d+1,gs) else Γ1 m,some (d+1,gs),.inl rfl,fun Γ he hE=>?_⟩
  have ek:Γ (k:Int)=some (d+1,gs):=(he k (kc _) (by lia)).trans (kq rfl)
  have ek1:Γ ((k+1:Nat):Int)=some (d+1,gs):=(he (k+1) (by lia) (by lia)).trans ((ko (by lia)).trans (kq rfl))
  have e1:Ext Γ Γ1 (k+2) k':=fun m m1 m2=>(he m (by lia) m2).trans ((ko (by lia)).trans (ko (by lia)))
  have hE1:GEnv Γ (gs++[((k:Int),d)]):=fun g z=>by
   rw [hlast] at z
   cases z
   rw [kC]
   exact ek
  have t1:∀g,gs.getLast?=some g→g.2≤d+1:=fun g z=>by have:=hg.top g z;lia
  have p1:0≤d+1:=by have:=hg.pos;lia
  rw [zq,zq,zq,zq,zq,z4P hg.pos hg.top (by lia),kb,q1 Γ e1 hE1,kb,Jv p1 (by show d≤d+1;lia) (by lia),kb,Zj p1 t1 (by lia) ek1,kb,qm p1 t1 (by lia) ek (.inl rfl),kb]
  exact qm p1 t1 (by lia) ek1 (.inr rfl)
 ·have ek:Γ (k:Int)=none:=hΓ k (kc _) (by lia)
  have ek1:Γ ((k+1:Nat):Int)=none:=hΓ (k+1) (by lia) (by lia)
  rw [zq,zq,zq,zq,zq,zC (show ("try":Str)≠"label" by trivial),kb,x.off Γ fun m m1 m2=>hΓ m (by lia) m2,kb,zC (show ("endtry":Str)≠"label" by trivial),kb,zC (show ("jump":Str)≠"label" by trivial),kb,zK ek,kb]
  exact zK ek1
theorem Ty.round {k k1 k2:Nat} {l1 l2:List Row} {su:Bool} (x:Ty 1 true (k+2) k1 l1) (y:Ty 0 su k1 k2 l2) (h1:k+2≤k1) (h2:k1≤k2) (a b c e:Int):
  Ty 0 true k k2 ([⟨"label",.int (k:Int),a⟩]++l1++[⟨"iffalse",.int ((k+1:Nat):Int),b⟩]++l2++[⟨"jump",.int (k:Int),c⟩]++[⟨"label",.int ((k+1:Nat):Int),e⟩]):=by
 refine ⟨fun d gs hg=>?_,fun Γ hΓ=>?_⟩
 ·have hl:=hg.len
  simp only [kh,ky] at hl
  obtain ⟨Γ1,q1⟩:=x.sure (d:=d) (gs:=gs) ⟨hg.pos,by lia,hg.top⟩
  obtain ⟨Γ2,c2,hc2,q2⟩:=y.go d gs ⟨hg.pos,by lia,hg.top⟩
  refine ⟨fun m=>if m=(k:Int) then some (d,gs) else if m=((k+1:Nat):Int) then some (d,gs) else if m < (k1:Int) then Γ1 m else Γ2 m,some (d+0,gs),.inl rfl,fun Γ he hE=>?_⟩
  have ek:Γ (k:Int)=some (d,gs):=(he k (kc _) (by lia)).trans (kq rfl)
  have ek1:Γ ((k+1:Nat):Int)=some (d,gs):=(he (k+1) (by lia) (by lia)).trans ((ko (by lia)).trans (kq rfl))
  have e1:Ext Γ Γ1 (k+2) k1:=fun m m1 m2=>(he m (by lia) (by lia)).trans ((ko (by lia)).trans ((ko (by lia)).trans (kq (by lia))))
  have e2:Ext Γ Γ2 k1 k2:=fun m m1 m2=>(he m (by lia) m2).trans ((ko (by lia)).trans ((ko (by lia)).trans (ko (by lia))))
  rw [zq,zq,zq,zq,zq,qm hg.pos hg.top (by lia) ek (.inr rfl),kb,q1 Γ e1 hE,kb,z2l (by trivial) hg.pos hg.top (by lia) ek1,kb,q2 Γ e2 hE,kb,Int.add_zero]
  rcases hc2 with rfl | ⟨_,rfl⟩
  ·rw [Int.add_zero,Zj hg.pos hg.top (by lia) ek,kb]
   exact qm hg.pos hg.top (by lia) ek1 (.inl rfl)
  ·rw [zC (show ("jump":Str)≠"label" by trivial),kb]
   exact qm hg.pos hg.top (by lia) ek1 (.inl rfl)
 ·have ek:Γ (k:Int)=none:=hΓ k (kc _) (by lia)
  have ek1:Γ ((k+1:Nat):Int)=none:=hΓ (k+1) (by lia) (by lia)
  rw [zq,zq,zq,zq,zq,zK ek,kb,x.off Γ fun m m1 m2=>hΓ m (by lia) (by lia),kb,zC (show ("iffalse":Str)≠"label" by trivial),kb,y.off Γ fun m m1 m2=>hΓ m (by lia) m2,kb,zC (show ("jump":Str)≠"label" by trivial),kb]
  exact zK ek1
theorem Ty.choice {k k1 k2 k3:Nat} {l1 l2 l3:List Row} {s2 s3:Bool} (x:Ty 1 true (k+2) k1 l1) (y:Ty 0 s2 k1 k2 l2) (z:Ty 0 s3 k2 k3 l3) (h1:k+2≤k1) (h2:k1≤k2) (h3:k2≤k3) {op:Str} (ho:op∈(["iftrue","iffalse"]:List Str)) (a b c e:Int):
  Ty 0 true k k3 (l1++[⟨op,.int (k:Int),a⟩]++l2++[⟨"jump",.int ((k+1:Nat):Int),b⟩]++[⟨"label",.int (k:Int),c⟩]++l3++[⟨"label",.int ((k+1:Nat):Int),e⟩]):=by
 refine ⟨fun d gs hg=>?_,fun Γ hΓ=>?_⟩
 ·have hl:=hg.len
  simp only [kh,ky] at hl
  obtain ⟨Γ1,q1⟩:=x.sure (d:=d) (gs:=gs) ⟨hg.pos,by lia,hg.top⟩
  obtain ⟨Γ2,c2,hc2,q2⟩:=y.go d gs ⟨hg.pos,by lia,hg.top⟩
  obtain ⟨Γ3,c3,hc3,q3⟩:=z.go d gs ⟨hg.pos,by lia,hg.top⟩
  refine ⟨fun m=>if m=(k:Int) then some (d,gs) else if m=((k+1:Nat):Int) then some (d,gs) else if m < (k1:Int) then Γ1 m else if m < (k2:Int) then Γ2 m else Γ3 m,some (d+0,gs),.inl rfl,fun Γ he hE=>?_⟩
  have ek:Γ (k:Int)=some (d,gs):=(he k (kc _) (by lia)).trans (kq rfl)
  have ek1:Γ ((k+1:Nat):Int)=some (d,gs):=(he (k+1) (by lia) (by lia)).trans ((ko (by lia)).trans (kq rfl))
  have e1:Ext Γ Γ1 (k+2) k1:=fun m m1 m2=>(he m (by lia) (by lia)).trans ((ko (by lia)).trans ((ko (by lia)).trans (kq (by lia))))
  have e2:Ext Γ Γ2 k1 k2:=fun m m1 m2=>(he m (by lia) (by lia)).trans ((ko (by lia)).trans ((ko (by lia)).trans ((ko (by lia)).trans (kq (by lia)))))
  have e3:Ext Γ Γ3 k2 k3:=fun m m1 m2=>(he m (by lia) (by lia)).trans ((ko (by lia)).trans ((ko (by lia)).trans ((ko (by lia)).trans (ko (by lia)))))
  have j:chk Γ [⟨"jump",.int ((k+1:Nat):Int),b⟩] c2=some none:=by
   rcases hc2 with rfl | ⟨_,rfl⟩
   ·rw [Int.add_zero]
    exact Zj hg.pos hg.top (by lia) ek1
   ·exact zC (show ("jump":Str)≠"label" by trivial)
  rw [zq,zq,zq,zq,zq,zq,q1 Γ e1 hE,kb,z2l ho hg.pos hg.top (by lia) ek,kb,q2 Γ e2 hE,kb,j,kb,qm hg.pos hg.top (by lia) ek (.inl rfl),kb,q3 Γ e3 hE,kb,Int.add_zero]
  refine qm hg.pos hg.top (by lia) ek1 ?_
  rcases hc3 with rfl | ⟨_,rfl⟩
  ·exact .inr (by rw [Int.add_zero])
  ·exact .inl rfl
 ·have ek:Γ (k:Int)=none:=hΓ k (kc _) (by lia)
  have ek1:Γ ((k+1:Nat):Int)=none:=hΓ (k+1) (by lia) (by lia)
  rw [zq,zq,zq,zq,zq,zq,x.off Γ fun m m1 m2=>hΓ m (by lia) (by lia),kb,zC (z5r op ho).2.1,kb,y.off Γ fun m m1 m2=>hΓ m (by lia) (by lia),kb,zC (show ("jump":Str)≠"label" by trivial),kb,zK ek,kb,z.off Γ fun m m1 m2=>hΓ m (by lia) m2,kb]
  exact zK ek1
theorem Ty.rais {k k':Nat} {l:List Row} (x:Ty 1 true k k' l) (a:Int):Ty 0 false k k' (l++[⟨"raise",.non,a⟩]):=by
 refine ⟨fun d gs hg=>?_,fun Γ hΓ=>?_⟩
 ·have hl:=hg.len
  simp only [kh,ky] at hl
  obtain ⟨Γ1,q1⟩:=x.sure (d:=d) (gs:=gs) ⟨hg.pos,by lia,hg.top⟩
  refine ⟨Γ1,none,.inr ⟨rfl,rfl⟩,fun Γ he hE=>?_⟩
  rw [zq,q1 Γ he hE,kb]
  exact z0V hg.pos hg.top (by lia) hE
 ·rw [zq,x.off Γ hΓ,kb]
  exact zC (show ("raise":Str)≠"label" by trivial)
theorem Ty.weak {δ:Int} {su:Bool} {k k':Nat} {l:List Row} (x:Ty δ su k k' l):Ty δ false k k' l:=by
 refine ⟨fun d gs hg=>?_,x.off⟩
 obtain ⟨Γl,c',h,q⟩:=x.go d gs hg
 refine ⟨Γl,c',?_,q⟩
 rcases h with h | ⟨_,h⟩
 ·exact .inl h
 ·exact .inr ⟨rfl,h⟩
theorem z5H {Γ:Int→Option Sta} {op:Str} (h:op∈(["drop","tell","raise"]:List Str)) (ln:Int) {d:Int} {gs:List Gd} (h0:0≤d) (ht:∀g,gs.getLast?=some g→g.2≤d) (hz:gs.length≤1000) (hE:GEnv Γ gs):chk Γ [⟨op,.non,ln⟩] (some (d+1,gs))=some (if op="raise" then none else some (d,gs)):=by
 simp only [kw,kl,or_false] at h
 have e:d+1 - 1+0=d:=by lia
 rcases h with rfl | rfl | rfl
 ·rw [(j3 "drop" (by trivial)).chk .non ln (by lia) (fun g z=>by have:=ht g z;lia) hz hE,e,ko (by trivial)]
 ·rw [(j3 "tell" (by trivial)).chk .non ln (by lia) (fun g z=>by have:=ht g z;lia) hz hE,e,ko (by trivial)]
 ·rw [z0V h0 ht hz hE,kq rfl]
theorem Ty.tried {k k1 k2:Nat} {l1 l2:List Row} {s1 s2:Bool} (x:Ty 0 s1 (k+2) k1 l1) (y:Ty 0 s2 k1 k2 l2) (h1:k+2≤k1) (h2:k1≤k2) {op:Str} (ho:op∈(["drop","tell","raise"]:List Str)) (a b c e f g':Int):
  Ty 0 true k k2 ([⟨"try",.int (k:Int),a⟩]++l1++[⟨"endtry",.non,b⟩]++[⟨"jump",.int ((k+1:Nat):Int),c⟩]++[⟨"label",.int (k:Int),e⟩]++[⟨op,.non,f⟩]++l2++[⟨"label",.int ((k+1:Nat):Int),g'⟩]):=by
 have hopl:op≠"label":=by
  simp only [kw,kl,or_false] at ho
  rcases ho with rfl | rfl | rfl <;> decide+kernel
 refine ⟨fun d gs hg=>?_,fun Γ hΓ=>?_⟩
 ·have hl:=hg.len
  simp only [kh,ky] at hl
  have hlast:(gs++[((k:Int),d)]).getLast?=some ((k:Int),d):=by rw [List.getLast?_append];rfl
  obtain ⟨Γ1,c1,hc1,q1⟩:=x.go d (gs++[((k:Int),d)]) ⟨hg.pos,by rw [kh,ky];lia,fun g z=>by rw [hlast] at z;cases z;exact Int.le_refl _⟩
  obtain ⟨Γ2,c2,hc2,q2⟩:=y.go d gs ⟨hg.pos,by lia,hg.top⟩
  refine ⟨fun m=>if m=(k:Int) then some (d+1,gs) else if m=((k+1:Nat):Int) then some (d,gs) else if m < (k1:Int) then Γ1 m else if op="raise" then none else Γ2 m,some (d+0,gs),.inl rfl,fun Γ he hE=>?_⟩
  have ek:Γ (k:Int)=some (d+1,gs):=(he k (kc _) (by lia)).trans (kq rfl)
  have ek1:Γ ((k+1:Nat):Int)=some (d,gs):=(he (k+1) (by lia) (by lia)).trans ((ko (by lia)).trans (kq rfl))
  have e1:Ext Γ Γ1 (k+2) k1:=fun m m1 m2=>(he m (by lia) (by lia)).trans ((ko (by lia)).trans ((ko (by lia)).trans (kq (by lia))))
  have e2:∀m:Nat,k1≤m→m < k2→Γ (m:Int)=if op="raise" then none else Γ2 (m:Int):=fun m m1 m2=>(he m (by lia) (by lia)).trans ((ko (by lia)).trans ((ko (by lia)).trans (ko (by lia))))
  have hE1:GEnv Γ (gs++[((k:Int),d)]):=fun g z=>by
   rw [hlast] at z
   cases z
   rw [kC]
   exact ek
  have t1:∀g,gs.getLast?=some g→g.2≤d+1:=fun g z=>by have:=hg.top g z;lia
  have p1:0≤d+1:=by have:=hg.pos;lia
  have j:(chk Γ [⟨"endtry",.non,b⟩] c1).bind (fun c'=>chk Γ [⟨"jump",.int ((k+1:Nat):Int),c⟩] c')=some none:=by
   rcases hc1 with rfl | ⟨_,rfl⟩
   ·rw [Int.add_zero,Jv hg.pos (Int.le_refl d) (by lia),kb]
    exact Zj hg.pos hg.top (by lia) ek1
   ·rw [zC (show ("endtry":Str)≠"label" by trivial),kb]
    exact zC (show ("jump":Str)≠"label" by trivial)
  have z:(chk Γ [⟨op,.non,f⟩] (some (d+1,gs))).bind (fun c'=>chk Γ l2 c')=some (if op="raise" then none else c2):=by
   rw [z5H ho f hg.pos hg.top (by lia) hE,kb]
   by_cases hr:op="raise"
   ·rw [kq hr,kq hr]
    exact y.off Γ fun m m1 m2=>(e2 m m1 m2).trans (kq hr)
   ·rw [ko hr,ko hr]
    exact q2 Γ (fun m m1 m2=>(e2 m m1 m2).trans (ko hr)) hE
  have z2:(if op="raise" then none else c2)=none∨(if op="raise" then none else c2)=some (d,gs):=by
   by_cases hr:op="raise"
   ·rw [kq hr];exact .inl rfl
   ·rw [ko hr]
    rcases hc2 with rfl | ⟨_,rfl⟩
    ·exact .inr (by rw [Int.add_zero])
    ·exact .inl rfl
  rw [zq,zq,zq,zq,zq,zq,zq,z4P hg.pos hg.top (by lia),kb,q1 Γ e1 hE1,kb,j,kb,qm p1 t1 (by lia) ek (.inl rfl),kb,z,kb,Int.add_zero]
  exact qm hg.pos hg.top (by lia) ek1 z2
 ·have ek:Γ (k:Int)=none:=hΓ k (kc _) (by lia)
  have ek1:Γ ((k+1:Nat):Int)=none:=hΓ (k+1) (by lia) (by lia)
  rw [zq,zq,zq,zq,zq,zq,zq,zC (show ("try":Str)≠"label" by trivial),kb,x.off Γ fun m m1 m2=>hΓ m (by lia) (by lia),kb,zC (show ("endtry":Str)≠"label" by trivial),kb,zC (show ("jump":Str)≠"label" by trivial),kb,zK ek,kb,zC hopl,kb,y.off Γ fun m m1 m2=>hΓ m (by lia) m2,kb]
  exact zK ek1
structure Deep (op:Str) (b:Int):Prop where
 lab:op≠"label"
 et:op≠"endtry"
 deep:inT op jx=true
 takes:tabI qM op=0
 pushes:tabI qK op=b
 on:inT op qG=false
 jump:inT op jumping=false
 gput:tabI qD op=0
 fault:inT op faulting=false
theorem z4C:Deep "swap" 0:=⟨by trivial,by trivial,by trivial,by trivial,by trivial,by trivial,by trivial,by trivial,by trivial⟩
theorem JV:Deep "copy" 1:=⟨by trivial,by trivial,by trivial,by trivial,by trivial,by trivial,by trivial,by trivial,by trivial⟩
theorem Ty.deep {δ:Int} {k k':Nat} {l:List Row} (x:Ty δ true k k' l) {op:Str} {b:Int} (h:Deep op b) {n:Int} (hn:n≤δ) (ln:Int):Ty (δ+b) true k k' (l++[⟨op,.int n,ln⟩]):=by
 have ha:qi ⟨op,.int n,ln⟩=n:=by
  unfold qi
  rw [h.deep,kq rfl]
 refine ⟨fun d gs hg=>?_,fun Γ hΓ=>?_⟩
 ·have hl:=hg.len
  simp only [kh,ky] at hl
  obtain ⟨Γ1,q1⟩:=x.sure (d:=d) (gs:=gs) ⟨hg.pos,by lia,hg.top⟩
  refine ⟨Γ1,some (d+(δ+b),gs),.inl rfl,fun Γ he hE=>?_⟩
  rw [zq,q1 Γ he hE,kb,jg h.lab (jj (by rw [ha];have:=hg.pos;lia) (fun g e=>by rw [ha];have:=hg.top g e;lia) h.et (by lia)) ?_]
  ·unfold jT qr
   rw [h.on,ko ka,h.takes,h.pushes,h.gput,gs0]
   congr 3
   show d+δ - 0+b=d+(δ+b)
   lia
  ·intro t ht
   unfold tgts at ht
   rw [h.jump,h.fault] at ht
   cases ht
 ·rw [zq,x.off Γ hΓ,kb]
  exact zC h.lab
theorem Ty.whole {k k1 k2:Nat} {l1 l2:List Row} {su:Bool} (x:Ty 0 su k k1 l1) (y:Ty 1 true k1 k2 l2) (h1:k≤k1) (h2:k1≤k2) (a:Int) (hz:l1.length+l2.length≤998):
  ∃Γl:Int→Option Sta,∀Γ,Ext Γ Γl k k2→chk Γ (l1++l2++[⟨"return",.non,a⟩]) (some (0,[]))=some none:=by
 have xy:=x.app y h1 h2 (Int.le_refl 0)
 obtain ⟨Γl,c',hc,q⟩:=xy.go 0 [] ⟨Int.le_refl _,by simp only [kh,List.length_nil];lia,nofun⟩
 refine ⟨Γl,fun Γ he=>?_⟩
 rw [zq,q Γ he nofun,kb]
 rcases hc with rfl | ⟨_,rfl⟩
 ·rw [show (0:Int)+(0+1)=0+1 by decide]
  exact z39 (Int.le_refl 0) nofun (by decide)
 ·exact zC (show ("return":Str)≠"label" by trivial)
noncomputable def z4e:List Str:=["Oops","Zero","Unset","Type","Big"]
noncomputable def okV:V→Bool
 | .non=>true
 | .bl _=>true
 | .int i=> !big i
 | .str z=>decide (z∈z4e)
 | _=>false
def Qp (H H':Hp) (t:Addr):Prop:=∀b o,H b=some o→b≠t→H' b=some o
def Scr (K:kn) (H:Hp) (a:Addr) (xs:List V):Prop:=
 (∃o,H a=some (.frz o (.lst xs)))∨∃(o:Obj) (its:Array Value) (n:Nat),K.lookup a=some o∧o.cls=.type "list"∧o.dict=none∧o.data=.seq its n∧its.size≤sizeLine∧Vals xs its.toList
theorem Scr.sq {K:kn} {H:Hp} {a:Addr} {xs:List V} (h:Scr K H a xs):SqL K H a xs:=by
 rcases h with ⟨o,h⟩ | h
 ·exact .inl (.inr ⟨o,h⟩)
 ·exact .inr h
def z9N (H H':Hp) (t r m:Addr):Prop:=∀b o,H b=some o→b≠t→b≠r→b≠m→H' b=some o
theorem Scr.keep {K:kn} {H H':Hp} {a:Addr} {xs:List V} (h:Scr K H a xs) (k:∀o u,H a=some (.frz o u)→H' a=some (.frz o u)):Scr K H' a xs:=by
 rcases h with ⟨o,h⟩ | h
 ·exact .inl ⟨o,k _ _ h⟩
 ·exact .inr h
theorem Scr.keep1 {K:kn} {H H':Hp} {a t:Addr} {xs ys:List V} (h:Scr K H a xs) (k:Qp H H' t) (ht:H t=some (.lst ys)):Scr K H' a xs:=h.keep fun o u e=>k _ _ e (jU e ht nofun)
noncomputable def qU (c:Nat) (cells:List Int):List V:=.int (c:Int) :: cells.map V.int
section
def z1R (K:kn):Sp:=fun vs H Q _=>∃(a t:Addr) (ns:List Int) (c:Nat) (cells:List Int) (many:Int),vs=[.ref a,.ref t,.int many]∧Scr K H a (ns.map V.int)∧ns.length≤1000∧cells.length=ns.length∧H t=some (.lst (qU c cells))∧c≤100000∧1≤many∧many≤1000∧
 ∀(i:Int) (cells':List Int) H',0≤i→i < many→cells'.length=ns.length→H' t=some (.lst (qU (c+1) cells'))→Qp H H' t→Q (.int i) H'
theorem sc85:zn ["_law_script","_law_town_here","_law_many","_law_at","_law_left","_law_number"] ["_law_script","_law_town_here","_law_many"] (ze (top 85)):=fsM
theorem z5L {cells:List Int} {i:Int} (h0:0≤i) (h1:i < (cells.length:Int)) (c:Nat):∃z,atI (qU c cells) (1+i)=some (.int z):=by
 obtain ⟨j,rfl⟩:=kR h0
 have hj:j < cells.length:=by lia
 have e:(1:Int)+(j:Int)=((j+1:Nat):Int):=by lia
 refine ⟨cells[j],?_⟩
 rw [e]
 refine zi ?_
 unfold qU
 rw [List.getElem?_cons_succ,List.getElem?_map,kF hj]
 rfl
theorem z2P {ns:List Int} {i:Int} (h0:0≤i) (h1:i < (ns.length:Int)):∃z,atI (ns.map V.int) i=some (.int z):=by
 obtain ⟨j,rfl⟩:=kR h0
 have hj:j < ns.length:=by lia
 refine ⟨ns[j],zi ?_⟩
 rw [List.getElem?_map,kF hj]
 rfl
theorem z59 {c:Nat} {cells:List Int} {i:Int} (h0:0≤i) (h1:i < (cells.length:Int)) (z:Int):∃j cells',ixN (qU c cells).length (1+i)=some j∧(qU c cells).set j (.int z)=qU c cells'∧cells'.length=cells.length:=by
 obtain ⟨j,rfl⟩:=kR h0
 refine ⟨j+1,cells.set j z,?_,?_,by simp⟩
 ·unfold ixN qU
  rw [kq (by lia),kq (by simp;lia)]
  congr 1
  lia
 ·unfold qU
  rw [List.set_cons_succ,List.map_set]
theorem ix0 {c:Nat} {cells:List Int}:ixN (qU c cells).length 0=some 0:=by
 unfold ixN qU
 rw [kq (by decide),kq (by simp <;> lia)]
 rfl
theorem z7C (D:zt K mg "_law_draw" (top 85)) (G:Glo mg):FN P w K mg base 1 "_law_draw" ["_law_script","_law_town_here","_law_many"] (z1R K):=by
 refine FN.o D sc85 fun f cdv A outer s H vs Q E hr h=>?_
 obtain ⟨a,t,ns,c,cells,many,rfl,hS,hns,hcl,hT,hc,hm1,hm2,q⟩:=h
 have hu:A.units+3 < cLine:=by have:=hr.units0;exact this
 refine ⟨_,z8 (jW (zG j9 (zx zr (pv 1) zc (fun _ _=>rfl)) zc) (z1X (pv 1) zc Qv))
  (z8 (zH (zk (z0r (hr.units0)) (pv 0) (zO z7) (zo _))
   (zd (zm (zG QU (zG QW (zG Jp (zG Jp (zx zr (pv 1) zc (fun _ _=>rfl)) (zx zr (pv 1) zc (fun _ _=>rfl))) zc) zc) (pv 2)))) zu)
  (z8 (zI (i:=3) sc85.nd rfl (Or.inl rfl) (zG QU (zx zr (pv 1) zc (fun _ _=>rfl)) (zw zy rfl G.len zW (z6 (pv 0) z7))))
  (z8 (zI (i:=4) sc85.nd rfl (Or.inl rfl) (zx zr (pv 1) (zG j9 zc (pv 3)) (fun _ _=>rfl)))
  (z8 (zH (PW.pt (js (zk z5s (zx zr (pv 0) (pv 3) (fun _ _=>rfl)) (zG z0o zc zc) (zo _)) (qX (zk JN (pv 4) zc (zo _)))))
   (z8 (jW (zG QW (pv 4) (pv 2)) (z1X (pv 1) (zG j9 zc (pv 3)) Qv)) (zd (zm (zG QU (pv 4) (pv 2))))) zu)
  (z8 (zI (i:=5) sc85.nd rfl (Or.inl rfl) (zG QU (zG j9 (zx zr (pv 0) (pv 3) (fun _ _=>rfl)) (zG Jp zc (zx zr (pv 1) zc (fun _ _=>rfl)))) zc))
  (z8 (zI (i:=5) sc85.nd rfl (Or.inl rfl) (zG QU (zG z0o (pv 5) zc) zc))
  (zd (zm (zG QU (zG QW (zG QU (zG j9 (zG Jp (zG QW (pv 5) zc) zc) (pv 5)) zc) zc) (pv 2)))))))))),?_⟩
 have hmod:∀x:Int,0≤x % many∧x % many < many:=fun x=>⟨Int.emod_nonneg _ (by lia),Int.emod_lt_of_pos _ (by lia)⟩
 have cdm:CDiv 0 many:=⟨by lia,by lia⟩
 refine ⟨_,rfl,t,_,_,_,rfl,rfl,SqL.of hT,zi (j:=0) rfl,_,_,rfl,rfl,?_⟩
 refine ⟨_,rfl,t,_,_,0,rfl,rfl,hT,ix0,?_⟩
 have e1:(qU c cells).set 0 (V.int ((c:Int)+1))=qU (c+1) cells:=by
  unfold qU
  rw [List.set_cons_zero]
  rfl
 rw [e1]
 generalize hH1:upd H t (.lst (qU (c+1) cells))=H1
 have hT1:H1 t=some (.lst (qU (c+1) cells)):=by rw [←hH1];exact zb
 have k1:Qp H H1 t:=fun b o e hb=>by rw [←hH1,zl hb];exact e
 have hS1:=hS.keep1 k1 hT
 refine ⟨_,rfl,by show 0≤sizeLine;decide,fun p hp=>?_⟩
 have s2:Same H1 (upd H1 p (.lst [])):=zg hp _
 have hT2:=s2 _ _ hT1
 have hS2:Scr K (upd H1 p (.lst [])) a (ns.map V.int):=hS1.keep fun o u e=>s2 _ _ e
 have k2:Qp H (upd H1 p (.lst [])) t:=fun b o e hb=>s2 _ _ (k1 b o e hb)
 generalize hH2:upd H1 p (.lst [])=H2 at *
 have hp2:H2 p=some (.lst []):=by rw [←hH2];exact zb
 refine ⟨a,p,_,rfl,rfl,hS2.sq,SqL.of hp2,_,rfl,?_⟩
 refine ite2 (fun ce=>?_) (fun ce=>?_)
 ·refine ⟨_,rfl,t,_,_,_,rfl,rfl,SqL.of hT2,zi (j:=0) rfl,_,rfl,t,_,_,_,rfl,rfl,SqL.of hT2,zi (j:=0) rfl,_,_,rfl,rfl,.inl ⟨by lia,by lia⟩,_,_,rfl,rfl,.inr ⟨by decide,by decide⟩,_,_,rfl,rfl,⟨by decide,by decide⟩,_,rfl,_,_,rfl,rfl,by lia,?_⟩
  exact q _ cells H2 (hmod _).1 (hmod _).2 hcl hT2 k2
 ·have hne:ns≠[]:=fun z=>ce (by rw [z];rfl)
  have hpos:0 < ns.length:=List.length_pos_iff.mpr hne
  refine ⟨_,rfl,t,_,_,_,rfl,rfl,SqL.of hT2,zi (j:=0) rfl,_,rfl,a,_,rfl,.inl hS2.sq,_,_,rfl,rfl,by rw [kg];lia,?_⟩
  rw [kg]
  have a0:0≤((c+1:Nat):Int) % (ns.length:Int):=Int.emod_nonneg _ (by lia)
  have a1:((c+1:Nat):Int) % (ns.length:Int) < (ns.length:Int):=Int.emod_lt_of_pos _ (by lia)
  obtain ⟨z,hz⟩:=z5L (cells:=cells) a0 (by rw [hcl];exact a1) (c+1)
  obtain ⟨y,hy⟩:=z2P (ns:=ns) a0 a1
  refine ⟨_,rfl,_,rfl,_,_,rfl,rfl,t,_,_,_,rfl,rfl,SqL.of hT2,hz,?_⟩
  refine ⟨_,rfl,_,rfl,a,_,_,_,rfl,rfl,hS2.sq,hy,_,_,rfl,rfl,⟨by decide,by decide,by decide⟩,_,_,rfl,rfl,_,rfl,?_⟩
  have rest:tSeq (tAsg (tOp (rI (fun _ j=>0 < j) fun i j=>.int (i % j)) (tOp (rI0 fun i j=>.int (i+j)) (tOp (rIxL K) (tVar 0) (tVar 3)) (tOp (rI CMul fun i j=>.int (i * j)) (tC (.int 104729)) (tOp (rIxL K) (tVar 1) (tC (.int 0))))) (tC (.int 4294967291))) (z1w 5))
    (tSeq (tAsg (tOp (rI (fun _ j=>0 < j) fun i j=>.int (i % j)) (tOp (rI CPow fun i j=>.int (i ^ j.toNat)) (tVar 5) (tC (.int 5))) (tC (.int 4294967279))) (z1w 5))
    (tRet (tOp (rI (fun _ j=>0 < j) fun i j=>.int (i % j)) (tOp (rI CDiv fun i j=>.int (i / j)) (tOp (rI (fun _ j=>0 < j) fun i j=>.int (i % j)) (tOp (rI0 fun i j=>.int (i+j)) (tOp (rI CMul fun i j=>.int (i * j)) (tOp (rI CDiv fun i j=>.int (i / j)) (tVar 5) (tC (.int 64))) (tC (.int 69621))) (tVar 5)) (tC (.int 4294967231))) (tC (.int 8))) (tVar 2))))
    { nx:=fun _ H'=>Q .non H',rt:=Q } [some (.ref a),some (.ref t),some (.int many),some (.int (((c+1:Nat):Int) % (ns.length:Int))),some (.int z),none] H2:=by
   refine ⟨_,rfl,_,rfl,a,_,_,_,rfl,rfl,hS2.sq,hy,_,rfl,t,_,_,_,rfl,rfl,SqL.of hT2,zi (j:=0) rfl,_,_,rfl,rfl,.inl ⟨by decide,by decide⟩,_,_,rfl,rfl,_,_,rfl,rfl,(by show (0:Int) < 4294967291;decide),?_⟩
   have b0:0≤(y+104729 * ((c+1:Nat):Int)) % 4294967291:=Int.emod_nonneg _ (by decide)
   have b1:(y+104729 * ((c+1:Nat):Int)) % 4294967291 < 4294967291:=Int.emod_lt_of_pos _ (by decide)
   refine ⟨_,rfl,_,_,rfl,rfl,⟨by decide,by decide,?_⟩,_,_,rfl,rfl,(by show (0:Int) < 4294967279;decide),?_⟩
   ·show ((y+104729 * ((c+1:Nat):Int)) % 4294967291).natAbs < 2 ^ 64
    lia
   refine ⟨_,rfl,_,_,rfl,rfl,⟨by decide,by decide⟩,_,_,rfl,rfl,.inr ⟨by decide,by decide⟩,_,rfl,_,_,rfl,rfl,_,_,rfl,rfl,(by show (0:Int) < 4294967231;decide),_,_,rfl,rfl,⟨by decide,by decide⟩,_,rfl,_,_,rfl,rfl,by lia,?_⟩
   exact q _ cells H2 (hmod _).1 (hmod _).2 hcl hT2 k2
  refine ite2 (fun c1=>?_) (fun c1=>?_)
  ·refine ⟨_,rfl,_,_,rfl,rfl,_,rfl,?_⟩
   refine ite2 (fun c2=>?_) (fun c2=>rest)
   obtain ⟨j,cells',hj,hset,hl'⟩:=z59 (c:=c+1) (cells:=cells) a0 (by rw [hcl];exact a1) (z / many)
   refine ⟨_,rfl,_,rfl,_,_,rfl,rfl,⟨by lia,by lia⟩,?_⟩
   refine ⟨_,rfl,_,rfl,_,_,rfl,rfl,t,_,_,j,rfl,rfl,hT2,hj,?_⟩
   rw [hset]
   refine ⟨_,rfl,_,rfl,_,_,rfl,rfl,by lia,?_⟩
   exact q _ cells' _ (hmod _).1 (hmod _).2 (hl'.trans hcl) zb fun b o e hb=>by rw [zl hb];exact k2 b o e hb
  ·exact iteF rest
end
def FNd (P:Program) (w:World) (K:kn) (mg:Str→Option Value) (base:Heap) (k:Nat) (name:Str) (ps:List Str) (dvs:List V) (sp:Sp):Prop:=
 ∃f fd ds,mg name=some (.ref f)∧PySem.W.keepIn K (.ref f)=true∧Vals dvs ds∧Jg K fd ps ds∧FnOk P w K mg base CX0 k f fd ps sp
def z54 (K:kn) (mg:Str→Option Value) (name:Str) (st:Stmt):Prop:=
 ∃(f T:Addr) (oc kV doc pm cdv ct:Value) (od an:Option Addr) (osl:Array (Option Value)) (to:Obj) (n:Nat),mg name=some (.ref f)∧PySem.W.keepIn K (.ref f)=true∧
  K.lookup f=some ⟨oc,od,.func (PySem.W.fnOf name name (qH st) (zV st) (ze st) (.ref T) kV doc pm an cdv ct),osl⟩∧PySem.W.codeIn K cdv name=true∧K.lookup T=some to∧to.data=.seq #[Value.none] n
section
variable {X:Cx} {k:Nat} {name:Str} {ps:List Str} {dvs:List V} {sp:Sp} {p pos:Pos} {e:Expr} {es:List Expr} {t:TA}
theorem zA (F:FNd X.prog X.w X.K X.mg X.base k name ps dvs sp) (hr:Room k X.A) (hg:Gl X name) (ha:PA X (e :: es) t) (hdb:autoParam ((name == ("__debug__":Str))=false) aR._auto_2)
  (he:autoParam (starEach (e :: es) X.env=(false,eval e X.env) :: starEach es X.env) aR._auto_1) (hpl:autoParam ((backTo pos (starEach es X.env)).any (·.1)=false) aR._auto_1):
  PE X (.Call (.Name name p) (e :: es) [] pos) (z2w sp dvs E0 t):=by
 obtain ⟨f,fd,ds,a,b,v,c,d⟩:=F
 exact z3V d hr hg a b c v z76 ha hdb he hpl
end
section
def z09:Sp:=fun vs H Q _=>∃(r:Addr) (op:Str) (x:V) (ys:List V),vs=[.ref r,.str op,x]∧H r=some (.lst ys)∧ys.length≤100000∧
 ∀a,H a=none→Q .non (upd (upd H a (.tup [.str op,x,.int (10+(ys.length:Int) / 2)])) r (.lst (ys++[.ref a])))
theorem sc89:zn ["_law_rows","_law_op","_law_arg"] ["_law_rows","_law_op","_law_arg"] (ze (top 89)):=fsM
theorem z25 {n:Nat} (h:n≤100000):n < sizeLine:=Nat.lt_of_le_of_lt h (by decide)
theorem z8M (D:z54 K mg "_law_put" (top 89)) (G:Glo mg):FNd P w K mg base 1 "_law_put" ["_law_rows","_law_op","_law_arg"] [] z09∧FNd P w K mg base 1 "_law_put" ["_law_rows","_law_op","_law_arg"] [.non] z09:=by
 obtain ⟨f,T,oc,kV,doc,pm,cdv,ct,od,an,osl,to,n,m,kp,lk,hcd,lT,hT⟩:=D
 have ok:FnOk P w K mg base CX0 1 f (PySem.W.fnOf "_law_put" "_law_put" (qH (top 89)) (zV (top 89)) (ze (top 89)) (.ref T) kV doc pm an cdv ct) ["_law_rows","_law_op","_law_arg"] z09:=by
  refine z8N lk hcd sc89 (fun vs H Q E h=>by obtain ⟨r,op,x,ys,rfl,_⟩:=h;rfl) (fun A outer s H vs Q E hr h=>?_)
  obtain ⟨r,op,x,ys,rfl,hr1,hl,q⟩:=h
  refine ⟨_,PSs.nox (zd (zj (Jo (pv 0) (z6 (zF (z6 (pv 1) (z6 (pv 2) (z6 (zG j9 zc (zG QW (zw zy rfl G.len zW (z6 (pv 0) z7)) zc)) z7)))) z7)))),?_⟩
  refine ⟨_,rfl,.inl ⟨rfl,_,SqL.of hr1⟩,_,rfl,_,rfl,_,rfl,r,_,rfl,.inl (SqL.of hr1),_,_,rfl,rfl,⟨by decide,by decide⟩,_,_,rfl,rfl,by show 3≤sizeLine;decide,fun a ha=>?_⟩
  have nra:r≠a:=zh hr1 ha
  exact ⟨r,ys,.ref a,rfl,rfl,by rw [zl nra];exact hr1,z25 hl,q a ha⟩
 have b3:Jg K (PySem.W.fnOf "_law_put" "_law_put" (qH (top 89)) (zV (top 89)) (ze (top 89)) (.ref T) kV doc pm an cdv ct) ["_law_rows","_law_op","_law_arg"] []:=fun s us X hl=>by
  match us,hl with
  | [u1,u2,u3],_=>exact BindsTo.of_defaults (T:=T) (o:=to) (items:=#[Value.none]) rfl (X _ _ lT) hT rfl rfl
 have b2:Jg K (PySem.W.fnOf "_law_put" "_law_put" (qH (top 89)) (zV (top 89)) (ze (top 89)) (.ref T) kV doc pm an cdv ct) ["_law_rows","_law_op","_law_arg"] [.none]:=fun s us X hl=>by
  have hl':us.length=2:=by simpa using hl
  match us,hl' with
  | [u1,u2],_=>exact BindsTo.of_defaults (T:=T) (o:=to) (items:=#[Value.none]) rfl (X _ _ lT) hT rfl rfl
 exact ⟨⟨f,_,[],m,kp,.nil,b3,ok⟩,⟨f,_,[.none],m,kp,.cons rfl .nil,b2,ok⟩⟩
noncomputable def jO (k:Nat):List V:=(List.range k).map fun i:Nat=>V.int (i:Int)
theorem QZ (k:Nat):jO k++[.int (k:Int)]=jO (k+1):=by
 unfold jO
 rw [List.range_succ,kE]
 rfl
theorem Zd (k:Nat):(jO k).length=k:=by unfold jO;simp
def spMk:Sp:=fun vs H Q _=>∃(m:Addr) (k:Nat),vs=[.ref m]∧H m=some (.lst (jO k))∧k≤100000∧Q (.int (k:Int)) (upd H m (.lst (jO (k+1))))
theorem sc90:zn ["_law_marks"] ["_law_marks"] (ze (top 90)):=fsM
theorem z9F (D:zt K mg "_law_mark" (top 90)) (G:Glo mg):FN P w K mg base 1 "_law_mark" ["_law_marks"] spMk:=by
 refine FN.o D sc90 fun f cdv A outer s H vs Q E hr h=>?_
 obtain ⟨m,k,rfl,hm,hk,q⟩:=h
 refine ⟨_,z8 (zj (Jo (pv 0) (z6 (zw zy rfl G.len zW (z6 (pv 0) z7)) z7)))
  (zd (zm (zx zr (pv 0) (JH Zw zc) (fun _ _=>rfl)))),?_⟩
 refine ⟨_,rfl,.inl ⟨rfl,_,SqL.of hm⟩,_,rfl,m,_,rfl,.inl (SqL.of hm),m,_,_,rfl,rfl,hm,by rw [Zd];exact z25 hk,?_⟩
 rw [Zd,QZ]
 refine ⟨_,rfl,1,rfl,m,_,_,.int (k:Int),rfl,rfl,SqL.of zb,?_,q⟩
 rw [←QZ]
 exact z2r _ _
def z0a (K:kn):Sp:=fun vs H Q _=>∃(a t p:Addr) (ns:List Int) (c:Nat) (cells:List Int) (xs:List V),vs=[.ref a,.ref t,.ref p]∧Scr K H a (ns.map V.int)∧ns.length≤1000∧cells.length=ns.length∧H t=some (.lst (qU c cells))∧c≤100000∧H p=some (.lst xs)∧p≠t∧1≤xs.length∧xs.length≤1000∧
 ∀(v:V) (cells':List Int) H',v∈xs→cells'.length=ns.length→H' t=some (.lst (qU (c+1) cells'))→Qp H H' t→Q v H'
theorem sc86:zn ["_law_script","_law_town_here","_law_some"] ["_law_script","_law_town_here","_law_some"] (ze (top 86)):=fsM
theorem z7r (D:zt K mg "_law_pick" (top 86)) (G:Glo mg) (FD:FN P w K mg base 1 "_law_draw" ["_law_script","_law_town_here","_law_many"] (z1R K)):FN P w K mg base 2 "_law_pick" ["_law_script","_law_town_here","_law_some"] (z0a K):=by
 refine FN.o D sc86 fun f cdv A outer s H vs Q E hr h=>?_
 obtain ⟨a,t,p,ns,c,cells,xs,rfl,hS,hns,hcl,hT,hc,hp,hpt,hx1,hx2,q⟩:=h
 refine ⟨_,zd (zm (zx zr (pv 2) (zp FD hr rfl (z6 (pv 0) (z6 (pv 1) (z6 (zw zy rfl G.len zW (z6 (pv 2) z7)) z7)))) (fun _ _=>rfl))),?_⟩
 refine ⟨_,rfl,_,rfl,_,rfl,_,rfl,p,_,rfl,.inl (SqL.of hp),a,t,ns,c,cells,_,rfl,hS,hns,hcl,hT,hc,by lia,by lia,fun i cells' H' h0 h1 hl' hT' k'=>?_⟩
 obtain ⟨j,rfl⟩:=kR h0
 have hj:j < xs.length:=by lia
 exact ⟨p,_,_,xs[j],rfl,rfl,SqL.of (k' p _ hp hpt),zi (kF hj),q _ cells' H' (List.getElem_mem hj) hl' hT' k'⟩
def z1g (K:kn):Sp:=fun vs H Q _=>∃(a t:Addr) (ns:List Int) (c:Nat) (cells:List Int),vs=[.ref a,.ref t]∧Scr K H a (ns.map V.int)∧ns.length≤1000∧cells.length=ns.length∧H t=some (.lst (qU c cells))∧c≤100000∧
 ∀(v:V) (cells':List Int) H',zP v=true→okV v=true→cells'.length=ns.length→H' t=some (.lst (qU (c+1) cells'))→Qp H H' t→Q v H'
theorem sc88:zn ["_law_script","_law_town_here"] ["_law_script","_law_town_here"] (ze (top 88)):=fsM
theorem z0Q:∀v∈([.int 0,.int 1,.int 2,.int 3,.int (-4),.int 7,.int (10 ^ (9:Int).toNat),.bl true,.bl false,.non,.str "Oops",.str "Zero"]:List V),zP v=true∧okV v=true:=by trivial
theorem z5Z (D:zt K mg "_law_const" (top 88)) (FP:FN P w K mg base 2 "_law_pick" ["_law_script","_law_town_here","_law_some"] (z0a K)):FN P w K mg base 3 "_law_const" ["_law_script","_law_town_here"] (z1g K):=by
 refine FN.o D sc88 fun f cdv A outer s H vs Q E hr h=>?_
 obtain ⟨a,t,ns,c,cells,rfl,hS,hns,hcl,hT,hc,q⟩:=h
 refine ⟨_,zd (zm (zp FP hr rfl (z6 (pv 0) (z6 (pv 1) (z6 (zO (z6 zc (z6 zc (z6 zc (z6 zc (z6 (JH Zw zc) (z6 zc (z6 (zG z0o zc zc) (z6 Z2 (z6 Z2 (z6 qc (z6 zf (z6 zf z7))))))))))))) z7))))),?_⟩
 refine ⟨_,rfl,_,rfl,4,rfl,_,_,rfl,rfl,⟨by decide,by decide,by decide⟩,by show 12≤sizeLine;decide,fun p hp=>?_⟩
 have s1:=zg hp (.lst [.int 0,.int 1,.int 2,.int 3,.int (-4),.int 7,.int (10 ^ (9:Int).toNat),.bl true,.bl false,.non,.str "Oops",.str "Zero"])
 refine ⟨a,t,p,ns,c,cells,_,rfl,hS.keep fun o u e=>s1 _ _ e,hns,hcl,s1 _ _ hT,hc,zb,(zh hT hp).symm,by show 1≤12;decide,by show 12≤1000;decide,fun v cells' H' hv hl' hT' k'=>?_⟩
 exact q v cells' H' (z0Q v hv).1 (z0Q v hv).2 hl' hT' fun b o e hb=>k' b o (s1 _ _ e) hb
end
structure Pl where
 a:Addr
 t:Addr
 r:Addr
 m:Addr
 ns:List Int
structure GS (K:kn) (H:Hp) (p:Pl) (c:Nat) (rs:List Row) (k:Nat):Prop where
 scr:Scr K H p.a (p.ns.map V.int)
 nsl:p.ns.length≤1000
 town:∃cells:List Int,cells.length=p.ns.length∧H p.t=some (.lst (qU c cells))
 rows:∃as,H p.r=some (.lst (as.map V.ref))∧zv H as rs
 marks:H p.m=some (.lst (jO k))
 tr:p.t≠p.r
 tm:p.t≠p.m
 rm:p.r≠p.m
structure Step (K:kn) (H H':Hp) (p:Pl) (c:Nat) (rs:List Row) (k:Nat) (c':Nat) (new:List Row) (k' B:Nat):Prop where
 gs:GS K H' p c' (rs++new) k'
 c1:c≤c'
 c2:c'≤c+B
 n:new.length≤B
 k1:k≤k'
 k2:k'≤k+B
 keep:z9N H H' p.t p.r p.m
section
variable {K:kn} {H H' H1 H2:Hp} {p:Pl} {c c1 c2 k k1 k2 B B1 B2:Nat} {rs n1 n2:List Row}
theorem Step.trans (s:Step K H H1 p c rs k c1 n1 k1 B1) (u:Step K H1 H2 p c1 (rs++n1) k1 c2 n2 k2 B2):Step K H H2 p c rs k c2 (n1++n2) k2 (B1+B2) where
 gs:=by have:=u.gs;rw [kP] at this;exact this
 c1:=km s.c1 u.c1
 c2:=by have:=s.c2;have:=u.c2;lia
 n:=by have:=s.n;have:=u.n;rw [kh];lia
 k1:=km s.k1 u.k1
 k2:=by have:=s.k2;have:=u.k2;lia
 keep:=fun b o e h1 h2 h3=>u.keep b o (s.keep b o e h1 h2 h3) h1 h2 h3
theorem Step.more (s:Step K H H1 p c rs k c1 n1 k1 B1) (h:B1≤B2):Step K H H1 p c rs k c1 n1 k1 B2:=
 ⟨s.gs,s.c1,by have:=s.c2;lia,by have:=s.n;lia,s.k1,by have:=s.k2;lia,s.keep⟩
theorem GS.refl (g:GS K H p c rs k):Step K H H p c rs k c [] k 0:=
 ⟨by rw [kO];exact g,kc _,kc _,kc _,kc _,kc _,fun _ _ e _ _ _=>e⟩
theorem GS.same (g:GS K H p c rs k) (s:Same H H'):GS K H' p c rs k:=by
 obtain ⟨cells,h1,h2⟩:=g.town
 obtain ⟨as,h3,h4⟩:=g.rows
 exact ⟨g.scr.keep fun _ _ e=>s _ _ e,g.nsl,⟨cells,h1,s _ _ h2⟩,⟨as,s _ _ h3,h4.same s⟩,s _ _ g.marks,g.tr,g.tm,g.rm⟩
theorem GS.draw (g:GS K H p c rs k) {cells':List Int} (hl:cells'.length=p.ns.length) (hT:H' p.t=some (.lst (qU (c+1) cells'))) (kp:Qp H H' p.t):Step K H H' p c rs k (c+1) [] k 1:=by
 obtain ⟨cells,h1,h2⟩:=g.town
 obtain ⟨as,h3,h4⟩:=g.rows
 refine ⟨?_,by lia,by lia,by simp,kc _,by lia,fun b o e h1 _ _=>kp b o e h1⟩
 rw [kO]
 exact ⟨g.scr.keep1 kp h2,g.nsl,⟨cells',hl,hT⟩,⟨as,kp _ _ h3 g.tr.symm,h4.keep fun b xs e=>kp b _ e (jU e h2 nofun)⟩,kp _ _ g.marks g.tm.symm,g.tr,g.tm,g.rm⟩
theorem GS.put (g:GS K H p c rs k) {x:Addr} (hx:H x=none) {op:Str} {v:V} {as:List Addr} (h3:H p.r=some (.lst (as.map V.ref))) (h4:zv H as rs) {l:Int}:
  Step K H (upd (upd H x (.tup [.str op,v,.int l])) p.r (.lst (as.map V.ref++[.ref x]))) p c rs k c [⟨op,v,l⟩] k 1:=by
 obtain ⟨cells,h1,h2⟩:=g.town
 have nr:∀b o,H b=some o→b≠x:=fun b o e=>zh e hx
 have kp:∀b o,H b=some o→b≠p.r→(upd (upd H x (.tup [.str op,v,.int l])) p.r (.lst (as.map V.ref++[.ref x]))) b=some o:=fun b o e hb=>by rw [zl hb,zl (nr b o e)];exact e
 have xr:x≠p.r:=(nr _ _ h3).symm
 refine ⟨⟨g.scr.keep fun o u e=>kp _ _ e (jU e h3 nofun),g.nsl,⟨cells,h1,kp _ _ h2 g.tr⟩,⟨as++[x],by rw [kE];exact zb,?_⟩,kp _ _ g.marks g.rm.symm,g.tr,g.tm,g.rm⟩,kc _,by lia,by simp,kc _,by lia,fun b o e _ h2 _=>kp b o e h2⟩
 refine zv.append (h4.keep fun b xs e=>kp b _ e (jU e h3 nofun)) (.cons ?_ .nil)
 rw [zl xr,zb]
 rfl
theorem GS.mk' (g:GS K H p c rs k):Step K H (upd H p.m (.lst (jO (k+1)))) p c rs k c [] (k+1) 1:=by
 obtain ⟨cells,h1,h2⟩:=g.town
 obtain ⟨as,h3,h4⟩:=g.rows
 have kp:∀b o,H b=some o→b≠p.m→(upd H p.m (.lst (jO (k+1)))) b=some o:=fun b o e hb=>by rw [zl hb];exact e
 refine ⟨?_,kc _,by lia,by simp,by lia,kc _,fun b o e _ _ h3=>kp b o e h3⟩
 rw [kO]
 exact ⟨g.scr.keep fun o u e=>kp _ _ e (jU e g.marks nofun),g.nsl,⟨cells,h1,kp _ _ h2 g.tm⟩,⟨as,kp _ _ h3 g.rm,h4.keep fun b xs e=>kp b _ e (jU e g.marks nofun)⟩,zb,g.tr,g.tm,g.rm⟩
theorem jq (g:GS K H p c rs k) (hc:c≤100000) {many:Int} (h1:1≤many) (h2:many≤1000) {Q:VK} {E:XK} (h:∀i H',0≤i→i < many→Step K H H' p c rs k (c+1) [] k 1→Q (.int i) H'):z1R K [.ref p.a,.ref p.t,.int many] H Q E:=by
 obtain ⟨cells,e1,e2⟩:=g.town
 exact ⟨p.a,p.t,p.ns,c,cells,many,rfl,g.scr,g.nsl,e1,e2,hc,h1,h2,fun i cells' H' a b l t kp=>h i H' a b (g.draw l t kp)⟩
theorem qN (g:GS K H p c rs k) (hc:c≤100000) {q:Addr} (hq:H q=none) {xs:List V} (h1:1≤xs.length) (h2:xs.length≤1000) {Q:VK} {E:XK} (h:∀v H',v∈xs→Step K H H' p c rs k (c+1) [] k 1→Q v H'):
  z0a K [.ref p.a,.ref p.t,.ref q] (upd H q (.lst xs)) Q E:=by
 have s1:=zg hq (.lst xs)
 have g1:=g.same s1
 obtain ⟨cells,e1,e2⟩:=g1.town
 obtain ⟨cells0,_,e20⟩:=g.town
 exact ⟨p.a,p.t,q,p.ns,c,cells,xs,rfl,g1.scr,g1.nsl,e1,e2,hc,zb,(zh e20 hq).symm,h1,h2,fun v cells' H' hv l t kp=>h v H' hv (g.draw l t fun b o e hb=>kp b o (s1 _ _ e) hb)⟩
theorem Qw (g:GS K H p c rs k) (hc:c≤100000) {Q:VK} {E:XK} (h:∀v H',zP v=true→okV v=true→Step K H H' p c rs k (c+1) [] k 1→Q v H'):z1g K [.ref p.a,.ref p.t] H Q E:=by
 obtain ⟨cells,e1,e2⟩:=g.town
 exact ⟨p.a,p.t,p.ns,c,cells,rfl,g.scr,g.nsl,e1,e2,hc,fun v cells' H' hv ho l t kp=>h v H' hv ho (g.draw l t kp)⟩
theorem qb (g:GS K H p c rs k) (hl:rs.length≤100000) {op:Str} {v:V} {Q:VK} {E:XK} (h:∀H',Step K H H' p c rs k c [⟨op,v,10+(rs.length:Int) / 2⟩] k 1→Q .non H'):z09 [.ref p.r,.str op,v] H Q E:=by
 obtain ⟨as,h3,h4⟩:=g.rows
 have e:(as.map V.ref).length=rs.length:=by rw [kg];exact h4.len
 refine ⟨p.r,op,v,_,rfl,h3,by lia,fun x hx=>?_⟩
 rw [e]
 exact h _ (g.put hx h3 h4)
theorem JF (g:GS K H p c rs k) (hk:k≤100000) {Q:VK} {E:XK} (h:∀H',Step K H H' p c rs k c [] (k+1) 1→Q (.int (k:Int)) H'):spMk [.ref p.m] H Q E:=⟨p.m,k,rfl,g.marks,hk,h _ g.mk'⟩
end
def RowG (r:Row):Prop:=∃s,zR r.op=some s∧0≤r.line∧r.line≤9999∧(r.op="push"→okV r.arg=true)∧((s="mark"∧∃m:Nat,r.arg=.int (m:Int))∨(s≠"mark"∧jc s r.arg=true))
noncomputable def J2 (m:Nat) (r:Row):Bool:=decide (r.op="label")&&decide (r.arg=.int (m:Int))
noncomputable def ZK (m:Nat) (r:Row):Bool:=decide (zR r.op=some ("mark":Str))&&decide (r.op≠"label")&&decide (r.arg=.int (m:Int))
noncomputable def lab (m:Nat) (l:List Row):Nat:=l.countP (J2 m)
noncomputable def use (m:Nat) (l:List Row):Nat:=l.countP (ZK m)
theorem zN (m:Nat) (a b:List Row):lab m (a++b)=lab m a+lab m b:=List.countP_append
theorem jm (m:Nat) (a b:List Row):use m (a++b)=use m a+use m b:=List.countP_append
structure Good (k k':Nat) (l:List Row):Prop where
 row:∀r∈l,RowG r
 lab1:∀m,lab m l≤1
 labI:∀m,lab m l≠0→k≤m∧m < k'
 useI:∀m,use m l≠0→lab m l≠0
 labA:∀m,k≤m→m < k'→lab m l≠0
theorem Good.nil (k:Nat):Good k k []:=⟨(fun _ h=>by cases h),fun _=>Nat.zero_le _,fun _ h=>absurd rfl h,fun _ h=>absurd rfl h,fun _ _ _=>by lia⟩
theorem Good.app {k k1 k2:Nat} {a b:List Row} (x:Good k k1 a) (y:Good k1 k2 b) (h1:k≤k1) (h2:k1≤k2):Good k k2 (a++b):=by
 refine ⟨fun r hr=>(kM.mp hr).elim (x.row r) (y.row r),fun m=>?_,fun m h=>?_,fun m h=>?_,fun m ha hb=>?_⟩
 ·have:=x.lab1 m;have:=y.lab1 m;have:=x.labI m;have:=y.labI m
  rw [zN];lia
 ·have:=x.labI m;have:=y.labI m
  rw [zN] at h;lia
 ·have:=x.useI m;have:=y.useI m
  rw [jm] at h
  rw [zN];lia
 ·have:=x.labA m;have:=y.labA m
  rw [zN];lia
def Bare (op:Str) (v:V):Prop:=∃s,zR op=some s∧s≠"mark"∧jc s v=true∧(op="push"→okV v=true)
theorem Bare.noLab {op:Str} {v:V} (h:Bare op v) (m:Nat) (l:Int):lab m [⟨op,v,l⟩]=0:=by
 obtain ⟨s,hs,hm,_⟩:=h
 have:op≠"label":=fun z=>hm (by rw [z,Zg] at hs;exact (kr hs).symm)
 unfold lab
 rw [List.countP_singleton]
 have:J2 m ⟨op,v,l⟩=false:=by unfold J2;simp [this]
 rw [this]
 rfl
theorem Bare.noUse {op:Str} {v:V} (h:Bare op v) (m:Nat) (l:Int):use m [⟨op,v,l⟩]=0:=by
 obtain ⟨s,hs,hm,_⟩:=h
 unfold use
 rw [List.countP_singleton]
 have:ZK m ⟨op,v,l⟩=false:=by
  unfold ZK
  rw [hs]
  have:¬(some s=some ("mark":Str)):=fun z=>hm (kr z)
  simp [this]
 rw [this]
 rfl
theorem Bare.rowG {op:Str} {v:V} (h:Bare op v) {l:Int} (h0:0≤l) (h1:l≤9999):RowG ⟨op,v,l⟩:=by
 obtain ⟨s,hs,hm,hf,hp⟩:=h
 exact ⟨s,hs,h0,h1,hp,.inr ⟨hm,hf⟩⟩
theorem Bare.good {op:Str} {v:V} (h:Bare op v) {l:Int} (h0:0≤l) (h1:l≤9999) (k:Nat):Good k k [⟨op,v,l⟩]:=
 ⟨fun r hr=>by rw [kj.mp hr];exact h.rowG h0 h1,fun m=>by rw [h.noLab];exact Nat.zero_le _,fun m z=>absurd (h.noLab m l) z,fun m z=>absurd (h.noUse m l) z,fun m _ _=>by lia⟩
def Uses (op:Str):Prop:=zR op=some ("mark":Str)∧op≠"label"
theorem Uses.noLab {op:Str} (h:Uses op) (m:Nat) (v:V) (l:Int):lab m [⟨op,v,l⟩]=0:=by
 unfold lab
 rw [List.countP_singleton]
 have:J2 m ⟨op,v,l⟩=false:=by unfold J2;simp [h.2]
 rw [this]
 rfl
noncomputable def ind (m j:Nat):Nat:=if m=j then 1 else 0
theorem zL (m j:Nat):(m=j∧ind m j=1)∨(m≠j∧ind m j=0):=by
 unfold ind
 by_cases e:m=j <;> simp [e]
theorem Uses.use {op:Str} (h:Uses op) (m j:Nat) (l:Int):use m [⟨op,.int (j:Int),l⟩]=ind m j:=by
 unfold My.use ind
 rw [List.countP_singleton]
 have:ZK m ⟨op,.int (j:Int),l⟩=decide (m=j):=by
  unfold ZK
  rw [h.1]
  have:(V.int (j:Int)=V.int (m:Int))↔m=j:=⟨fun z=>by injection z with z;lia,fun z=>by rw [z]⟩
  simp [h.2,this]
 rw [this]
 by_cases e:m=j <;> simp [e]
theorem Uses.rowG {op:Str} (h:Uses op) {j:Nat} {l:Int} (h0:0≤l) (h1:l≤9999):RowG ⟨op,.int (j:Int),l⟩:=⟨"mark",h.1,h0,h1,fun z=>absurd (show zR "push"=some ("mark":Str) from (show op="push" from z)▸h.1) (by trivial),.inl ⟨rfl,j,rfl⟩⟩
theorem qf (m j:Nat) (l:Int):lab m [⟨"label",.int (j:Int),l⟩]=ind m j:=by
 unfold lab ind
 rw [List.countP_singleton]
 have:J2 m ⟨"label",.int (j:Int),l⟩=decide (m=j):=by
  unfold J2
  have:(V.int (j:Int)=V.int (m:Int))↔m=j:=⟨fun z=>by injection z with z;lia,fun z=>by rw [z]⟩
  simp [this]
 rw [this]
 by_cases e:m=j <;> simp [e]
theorem Zn (m:Nat) (v:V) (l:Int):use m [⟨"label",v,l⟩]=0:=by
 unfold use
 rw [List.countP_singleton]
 have:ZK m ⟨"label",v,l⟩=false:=by unfold ZK;simp
 rw [this]
 rfl
theorem qw {j:Nat} {l:Int} (h0:0≤l) (h1:l≤9999):RowG ⟨"label",.int (j:Int),l⟩:=⟨"mark",Zg,h0,h1,fun z=>absurd z (show ("label":Str)≠"push" by trivial),.inl ⟨rfl,j,rfl⟩⟩
theorem Ty.cast {δ δ':Int} {su:Bool} {k k':Nat} {l:List Row} (x:Ty δ su k k' l) (h:δ=δ'):Ty δ' su k k' l:=h▸x
noncomputable def bV:Nat→Nat
 | 0=>3
 | d+1=>2 * bV d+25
theorem Jx:∀d,3≤bV d
 | 0=>kc _
 | d+1=>by have:=Jx d;show 3≤2 * bV d+25;lia
theorem qk (m:Nat):lab m []=0:=rfl
theorem ZV (m:Nat):use m []=0:=rfl
def AllG (l:List Row):Prop:=∀r∈l,RowG r
theorem AllG.nil:AllG []:=fun _ h=>by cases h
theorem AllG.app {a b:List Row} (x:AllG a) (y:AllG b):AllG (a++b):=fun r hr=>(kM.mp hr).elim (x r) (y r)
theorem AllG.one {r:Row} (h:RowG r):AllG [r]:=fun x hx=>by rw [kj.mp hx];exact h
theorem Qk:Uses "try":=⟨by trivial,by trivial⟩
theorem qg:Uses "jump":=⟨by trivial,by trivial⟩
theorem z06:Uses "iffalse":=⟨by trivial,by trivial⟩
theorem z7W:Uses "iftrue":=⟨by trivial,by trivial⟩
theorem z7U:Uses "ortrue":=⟨by trivial,by trivial⟩
theorem z7V:Uses "orfalse":=⟨by trivial,by trivial⟩
theorem je {op:Str} (h:zR op=some ("none":Str)):Bare op .non:=⟨"none",h,by trivial,by trivial,fun _=>rfl⟩
theorem Qn:Bare "endtry" .non:=je (by trivial)
theorem z2q:Bare "drop" .non:=je (by trivial)
theorem Zm:Bare "tell" .non:=je (by trivial)
theorem z91:Bare "same" .non:=je (by trivial)
theorem z4Z:Bare "raise" .non:=je (by trivial)
theorem QD:Bare "return" .non:=je (by trivial)
theorem Ja {v:V} (h:zP v=true) (ho:okV v=true):Bare "push" v:=⟨"value",by trivial,by trivial,by unfold jc;rw [kq rfl];exact h,fun _=>ho⟩
theorem z14 {v:V} (h:v∈([.str "a",.str "b",.str "c"]:List V)):Bare "load" v:=⟨"name",by trivial,by trivial,by revert v;decide+kernel,fun z=>absurd z (by trivial)⟩
theorem z7O {v:V} (h:v∈([.str "a",.str "b",.str "c"]:List V)):Bare "store" v:=⟨"name",by trivial,by trivial,by revert v;decide+kernel,fun z=>absurd z (by trivial)⟩
theorem z7P {v:V} (h:v∈([.str "b",.str "c"]:List V)):Bare "clear" v:=⟨"name",by trivial,by trivial,by revert v;decide+kernel,fun z=>absurd z (by trivial)⟩
theorem Zs {s:Str} {i lo hi:Int} (h:∀x,jc s x=ql x lo hi) (h0:lo≤i) (h1:i≤hi):jc s (.int i)=true:=by
 rw [h]
 show (decide (lo≤i)&&decide (i≤hi))=true
 rw [kf h0,kf h1]
 rfl
theorem z90 {i:Int} (h0:2≤i) (h1:i≤9):Bare "swap" (.int i):=⟨"swapped",by trivial,by trivial,Zs (fun x=>by
 unfold jc;rw [ko (by trivial),ko (by trivial),ko (by trivial),kq rfl];rfl) h0 h1,fun z=>absurd z (by trivial)⟩
theorem z6F {i:Int} (h0:1≤i) (h1:i≤9):Bare "copy" (.int i):=⟨"copied",by trivial,by trivial,Zs (fun x=>by
 unfold jc;rw [ko (by trivial),ko (by trivial),kq rfl];rfl) h0 h1,fun z=>absurd z (by trivial)⟩
section
variable {K:kn} {H H' H1 H2:Hp} {p:Pl} {c c1 c2 k k1 k2 B B1 B2:Nat} {rs n1 n2:List Row}
theorem Step.tick (s:Step K H H1 p c rs k c1 n1 k1 B1) (u:Step K H1 H2 p c1 (rs++n1) k1 c2 [] k2 B2):Step K H H2 p c rs k c2 n1 k2 (B1+B2):=by
 have:=s.trans u
 rw [kO] at this
 exact this
theorem Step.len (s:Step K H H1 p c rs k c1 n1 k1 B1):(rs++n1).length≤rs.length+B1:=by
 have:=s.n
 rw [kh]
 lia
end
def qu (K:kn) (C:Int→Nat→Prop) (δ:Int) (su:Bool):Sp:=fun vs H Q _=>∃(p:Pl) (c:Nat) (rs:List Row) (k:Nat) (e:Int) (B:Nat),vs=[.ref p.a,.ref p.t,.ref p.r,.ref p.m,.int e]∧C e B∧GS K H p c rs k∧c+B≤15000∧rs.length+B≤15000∧k+B≤15000∧
 ∀c' new k' H',Step K H H' p c rs k c' new k' B→Good k k' new→Ty δ su k k' new→Q .non H'
theorem jo {K:kn} {C:Int→Nat→Prop} {δ:Int} {su:Bool} (vs:List V) (H:Hp) (Q:VK) (E:XK) (h:qu K C δ su vs H Q E):vs.length=5:=by
 obtain ⟨p,c,rs,k,e,B,rfl,_⟩:=h
 rfl
def CV (n:Nat) (e:Int) (B:Nat):Prop:=∃d:Nat,e=(d:Int)∧d < n∧B=bV d
def CTV (n:Nat) (e:Int) (B:Nat):Prop:=∃d:Nat,e=(d:Int)+1∧d < n∧B=bV d+7
def CMV (n:Nat) (_:Int) (B:Nat):Prop:=0 < n∧B=30
noncomputable abbrev gps:List Str:=["_law_script","_law_town_here","_law_rows","_law_marks","_law_deep"]
theorem zJ {n:Nat} (h:n≤15000):(0:Int)≤10+(n:Int) / 2∧10+(n:Int) / 2≤9999:=by lia
section
structure jE (P:Program) (w:World) (K:kn) (mg:Str→Option Value) (base:Heap):Prop where
 draw:FN P w K mg base 1 "_law_draw" ["_law_script","_law_town_here","_law_many"] (z1R K)
 pick:FN P w K mg base 2 "_law_pick" ["_law_script","_law_town_here","_law_some"] (z0a K)
 const:FN P w K mg base 3 "_law_const" ["_law_script","_law_town_here"] (z1g K)
 put3:FNd P w K mg base 1 "_law_put" ["_law_rows","_law_op","_law_arg"] [] z09
 put2:FNd P w K mg base 1 "_law_put" ["_law_rows","_law_op","_law_arg"] [.non] z09
 mark:FN P w K mg base 1 "_law_mark" ["_law_marks"] spMk
theorem sc92:zn ["_law_script","_law_town_here","_law_rows","_law_marks","_law_deep","_law_mark_here","_law_end"] gps (ze (top 92)):=fsM
theorem z9C {n:Nat} (D:zt K mg "_law_tried_value" (top 92)) (S:jE P w K mg base) (FV:FN P w K mg base (3+2 * n) "_law_value" gps (qu K (CV n) 1 true)):FN P w K mg base (4+2 * n) "_law_tried_value" gps (qu K (CTV n) 1 true):=by
 have:=FN.of (k:=3+2 * n) (sp:=qu K (CTV n) 1 true) (P:=P) (w:=w) (base:=base) D sc92 (fun _ _ _ _ _ _=>zU5 fun _ _ _ _ _=>rfl) jo (fun f cdv A outer s H vs Q E hr h=>?_)
 ·exact this.mono (by lia)
 obtain ⟨p,c,rs,k,e,B,rfl,⟨d,he,hd,hB⟩,g,bc,br,bk,q⟩:=h
 have hr1:=hr.mono (show 1≤3+2 * n by lia)
 refine ⟨_,z8 (zI (i:=5) sc92.nd rfl (Or.inl rfl) (zp S.mark hr1 rfl (z6 (pv 3) z7)))
  (z8 (zI (i:=6) sc92.nd rfl (Or.inl rfl) (zp S.mark hr1 rfl (z6 (pv 3) z7)))
  (z8 (zj (zA S.put3 hr1 rfl (z6 (pv 2) (z6 zf (z6 (pv 5) z7)))))
  (z8 (zj (zp FV hr rfl (z6 (pv 0) (z6 (pv 1) (z6 (pv 2) (z6 (pv 3) (z6 (zG qo (pv 4) zc) z7)))))))
  (z8 (zj (zA S.put2 hr1 rfl (z6 (pv 2) (z6 zf z7))))
  (z8 (zj (zA S.put3 hr1 rfl (z6 (pv 2) (z6 zf (z6 (pv 6) z7)))))
  (z8 (zj (zA S.put3 hr1 rfl (z6 (pv 2) (z6 zf (z6 (pv 5) z7)))))
  (zd (zj (zA S.put3 hr1 rfl (z6 (pv 2) (z6 zf (z6 (pv 6) z7)))))))))))),?_⟩
 refine ⟨_,rfl,JF g (by lia) fun H1 s1=>?_⟩
 refine ⟨_,rfl,JF s1.gs (by lia) fun H2 s2=>?_⟩
 have t2:=s1.trans s2
 refine ⟨_,rfl,_,rfl,qb t2.gs (by have:=t2.n;rw [kh];lia) fun H3 s3=>?_⟩
 have t3:=t2.trans s3
 refine ⟨_,rfl,_,rfl,_,rfl,_,rfl,_,rfl,_,_,rfl,rfl,p,_,_,_,_,bV d,rfl,⟨d,(by show e - 1=_;lia),hd,rfl⟩,t3.gs,(by have:=t3.c2;lia),(by have:=t3.n;rw [kh];lia),(by have:=t3.k2;lia),fun c4 n4 k4 H4 s4 g4 y4=>?_⟩
 have t4:=t3.trans s4
 refine ⟨_,rfl,qb t4.gs (by have:=t4.n;rw [kh];lia) fun H5 s5=>?_⟩
 have t5:=t4.trans s5
 refine ⟨_,rfl,_,rfl,qb t5.gs (by have:=t5.n;rw [kh];lia) fun H6 s6=>?_⟩
 have t6:=t5.trans s6
 refine ⟨_,rfl,_,rfl,qb t6.gs (by have:=t6.n;rw [kh];lia) fun H7 s7=>?_⟩
 have t7:=t6.trans s7
 refine ⟨_,rfl,_,rfl,qb t7.gs (by have:=t7.n;rw [kh];lia) fun H8 s8=>?_⟩
 have t8:=t7.trans s8
 have L2:=zJ (n:=(rs++([]++[])).length) (by simp;lia)
 have L4:=zJ (km t4.len (by lia))
 have L5:=zJ (km t5.len (by lia))
 have L6:=zJ (km t6.len (by lia))
 have L7:=zJ (km t7.len (by lia))
 refine q _ _ _ _ (t8.more (by lia)) ⟨(((((((AllG.nil.app AllG.nil).app (AllG.one (Qk.rowG L2.1 L2.2))).app g4.row).app (AllG.one (Qn.rowG L4.1 L4.2))).app (AllG.one (qg.rowG L5.1 L5.2))).app (AllG.one (qw L6.1 L6.2))).app (AllG.one (qw L7.1 L7.2))),fun m=>?_,fun m h=>?_,fun m h=>?_,fun m ha hb=>?_⟩ (Ty.triedv y4 s4.k1 _ _ _ _ _)
 ·simp only [zN,qk,qf,Qk.noLab,Qn.noLab,qg.noLab]
  have:=g4.lab1 m;have:=g4.labI m;have:=zL m k;have:=zL m (k+1)
  lia
 ·simp only [zN,qk,qf,Qk.noLab,Qn.noLab,qg.noLab] at h
  have:=g4.labI m;have:=zL m k;have:=zL m (k+1);have:=s4.k1
  lia
 ·simp only [jm,ZV,Zn,Qk.use,Qn.noUse,qg.use] at h
  simp only [zN,qk,qf,Qk.noLab,Qn.noLab,qg.noLab]
  have:=g4.useI m
  lia
 ·simp only [zN,qk,qf,Qk.noLab,Qn.noLab,qg.noLab]
  have:=g4.labA m;have:=zL m k;have:=zL m (k+1)
  lia
end
set_option maxHeartbeats 8000000
section
variable {k k1:Nat} {n1:List Row}
theorem Good.put (g:Good k k1 n1) (hk:k≤k1) {op:Str} {v:V} (h:Bare op v) {l:Int} (h0:0≤l) (h1:l≤9999):Good k k1 (n1++[⟨op,v,l⟩]):=g.app (h.good h0 h1 k1) hk (kc _)
end
section
theorem sc93:zn ["_law_script","_law_town_here","_law_rows","_law_marks","_law_deep","_law_many","_law_k"] gps (ze (top 93)):=fsM
theorem z2B {v:V} (h:v∈([.str "drop",.str "tell",.str "same"]:List V)):∃op,v=.str op∧Bare op .non∧(jQ op 1 0∨jQ op 2 1):=by
 rcases kw.mp h with e | h
 ·exact ⟨_,e,z2q,.inl (j3 _ (by simp))⟩
 ·rcases kw.mp h with e | h
  ·exact ⟨_,e,Zm,.inl (j3 _ (by simp))⟩
  ·exact ⟨_,kj.mp h,z91,.inr (ZD _ (by simp))⟩
theorem z8O {n:Nat} (D:zt K mg "_law_moved_value" (top 93)) (G:Glo mg) (S:jE P w K mg base) (FV:FN P w K mg base (3+2 * n) "_law_value" gps (qu K (CV n) 1 true)):FN P w K mg base (4+2 * n) "_law_moved_value" gps (qu K (CMV n) 1 true):=by
 have:=FN.of (k:=3+2 * n) (sp:=qu K (CMV n) 1 true) (P:=P) (w:=w) (base:=base) D sc93 (fun _ _ _ _ _ _=>zU5 fun _ _ _ _ _=>rfl) jo (fun f cdv A outer s H vs Q E hr h=>?_)
 ·exact this.mono (by lia)
 obtain ⟨p,c,rs,k,e,B,rfl,⟨hn,hB⟩,g,bc,br,bk,q⟩:=h
 have hr1:=hr.mono (show 1≤3+2 * n by lia)
 have hr2:=hr.mono (show 2≤3+2 * n by lia)
 refine ⟨_,z8 (zI (i:=5) sc93.nd rfl (Or.inl rfl) (zG j9 zc (zp S.draw hr1 rfl (z6 (pv 0) (z6 (pv 1) (z6 zc z7))))))
  (z8 (Z1 PassesOwn.never rfl (qA rfl G.range (z6 (pv 5) z7)) (zB (i:=6) sc93.nd rfl (Or.inl rfl)) (zd (zj (zp FV hr rfl (z6 (pv 0) (z6 (pv 1) (z6 (pv 2) (z6 (pv 3) (z6 zc z7)))))))))
  (z8 (Z1 PassesOwn.never rfl (qA rfl G.range (z6 (zp S.draw hr1 rfl (z6 (pv 0) (z6 (pv 1) (z6 zc z7)))) z7)) (zB (i:=6) sc93.nd rfl (Or.inl rfl))
   (zd (zj (zA S.put3 hr1 rfl (z6 (pv 2) (z6 zf (z6 (zG j9 zc (zp S.draw hr1 rfl (z6 (pv 0) (z6 (pv 1) (z6 (zG qo (pv 5) zc) z7))))) z7)))))))
  (z8 (zH (zk qe (zp S.draw hr1 rfl (z6 (pv 0) (z6 (pv 1) (z6 zc z7)))) zc (zo _))
   (z8 (zj (zA S.put3 hr1 rfl (z6 (pv 2) (z6 zf (z6 (zG j9 zc (zp S.draw hr1 rfl (z6 (pv 0) (z6 (pv 1) (z6 (pv 5) z7))))) z7)))))
    (zd (zj (zA S.put2 hr1 rfl (z6 (pv 2) (z6 zf z7)))))) zu)
  (zd (Z1 PassesOwn.never rfl (qA rfl G.range (z6 (zG qo (pv 5) zc) z7)) (zB (i:=6) sc93.nd rfl (Or.inl rfl))
   (zd (zj (zA S.put2 hr1 rfl (z6 (pv 2) (z6 (zp S.pick hr2 rfl (z6 (pv 0) (z6 (pv 1) (z6 (zO (z6 zf (z6 zf (z6 zf z7)))) z7)))) z7)))))))))),?_⟩
 refine ⟨_,rfl,_,rfl,jq g (by lia) (by decide) (by decide) fun i0 H1 i00 i01 s1=>?_⟩
 refine ⟨_,_,rfl,rfl,?_⟩
 have hm0:2≤2+i0∧2+i0≤4:=⟨by lia,by lia⟩
 show tSeq _ _ _ [some (.ref p.a),some (.ref p.t),some (.ref p.r),some (.ref p.m),some (.int e),some (.int (2+i0)),none] H1
 generalize (2+i0:Int)=many at *
 refine ⟨_,rfl,many,rfl,by lia,by lia,jw (lo:=0) (n:=many.toNat) (fun i σ H2=>∃v c' new k',σ=[some (.ref p.a),some (.ref p.t),some (.ref p.r),some (.ref p.m),some (.int e),some (.int many),v]∧Step K H H2 p c rs k c' new k' (1+3 * i)∧Good k k' new∧Ty (i:Int) true k k' new)
  ⟨none,_,_,_,rfl,s1,Good.nil k,Ty.nil k⟩ ?_ ?_⟩
 ·rintro i σ H2 hi ⟨v,c',new,k',rfl,st,gd,ty⟩
  have l:=st.len
  refine ⟨_,rfl,_,rfl,_,rfl,_,rfl,p,_,_,_,_,3,rfl,⟨0,rfl,hn,rfl⟩,st.gs,(by have:=st.c2;lia),(by lia),(by have:=st.k2;lia),fun c4 n4 k4 H4 s4 g4 y4=>?_⟩
  exact ⟨_,c4,new++n4,k4,rfl,(st.trans s4).more (by lia),gd.app g4 st.k1 s4.k1,(ty.app y4 st.k1 s4.k1 (by lia)).cast (by lia)⟩
 rintro σ H2 ⟨v,c2,n2,k2,rfl,t2,g2,y2⟩
 have y2:=y2.cast (show ((many.toNat:Nat):Int)=many by lia)
 have t2:=t2.more (show _≤13 by lia)
 have l2:=t2.len
 refine ⟨_,rfl,_,rfl,jq t2.gs (by have:=t2.c2;lia) (by decide) (by decide) fun j0 H3 j00 j01 s3=>?_⟩
 have t3:=t2.tick s3
 refine ⟨j0,rfl,by lia,by lia,jw (lo:=0) (n:=j0.toNat) (fun i σ H2=>∃v c' new k',σ=[some (.ref p.a),some (.ref p.t),some (.ref p.r),some (.ref p.m),some (.int e),some (.int many),v]∧Step K H H2 p c rs k c' new k' (14+2 * i)∧Good k k' new∧Ty many true k k' new)
  ⟨v,_,_,_,rfl,t3,g2,y2⟩ ?_ ?_⟩
 ·rintro i σ H2 hi ⟨v,c',new,k',rfl,st,gd,ty⟩
  have l:=st.len
  refine ⟨_,rfl,_,rfl,_,rfl,_,rfl,_,_,rfl,rfl,jq st.gs (by have:=st.c2;lia) (by show 1≤many - 1;lia) (by show many - 1≤1000;lia) fun x H4 x0 x1 s4=>?_⟩
  have x1:x < many - 1:=x1
  have t4:=st.tick s4
  have l4:=t4.len
  refine ⟨_,_,rfl,rfl,qb t4.gs (by lia) fun H5 s5=>?_⟩
  have L:=zJ (show (rs++new).length≤15000 by lia)
  exact ⟨_,_,_,_,rfl,(t4.trans s5).more (by lia),gd.put st.k1 (z90 (by lia) (by lia)) L.1 L.2,(ty.deep z4C (n:=2+x) (by lia) _).cast (by lia)⟩
 rintro σ H4 ⟨v4,c4,n4,k4,rfl,t4,g4,y4⟩
 have t4:=t4.more (show _≤20 by lia)
 have l4:=t4.len
 have last:∀{v5:Option V} {c5:Nat} {n5:List Row} {k5:Nat} {H5:Hp},Step K H H5 p c rs k c5 n5 k5 24→Good k k5 n5→Ty many true k k5 n5→
   tFor (z8G (qV (tOp (rI0 fun i j=>.int (i - j)) (tVar 5) (tC (.int 1))) tNil)) (z1w 6) (z83 (z2w z09 [.non] E0 (qV (tVar 2) (qV (z2w (z0a K) [] E0 (qV (tVar 0) (qV (tVar 1) (qV (tLst (qV (tC (.str "drop")) (qV (tC (.str "tell")) (qV (tC (.str "same")) tNil)))) tNil)))) tNil))))
    { nx:=fun _ H'=>Q .non H',rt:=Q } [some (.ref p.a),some (.ref p.t),some (.ref p.r),some (.ref p.m),some (.int e),some (.int many),v5] H5:=by
  intro v5 c5 n5 k5 H5 t5 g5 y5
  refine ⟨_,rfl,_,_,rfl,rfl,many - 1,rfl,by lia,by lia,jw (lo:=0) (n:=(many - 1).toNat) (fun i σ H2=>∃v c' new k',σ=[some (.ref p.a),some (.ref p.t),some (.ref p.r),some (.ref p.m),some (.int e),some (.int many),v]∧Step K H H2 p c rs k c' new k' (24+2 * i)∧Good k k' new∧Ty (many - i) true k k' new)
   ⟨v5,_,_,_,rfl,t5,g5,y5.cast (by lia)⟩ ?_ ?_⟩
  ·rintro i σ H2 hi ⟨v,c',new,k',rfl,st,gd,ty⟩
   have l:=st.len
   refine ⟨_,rfl,_,rfl,_,rfl,by show 3≤sizeLine;decide,fun x hx=>?_⟩
   refine qN st.gs (by have:=st.c2;lia) hx (by show 1≤3;decide) (by show 3≤1000;decide) fun y H6 hy s6=>?_
   obtain ⟨op,rfl,hb,hpl⟩:=z2B hy
   have t6:=st.tick s6
   have l6:=t6.len
   refine qb t6.gs (by lia) fun H7 s7=>?_
   have L:=zJ (show (rs++new).length≤15000 by lia)
   exact ⟨_,_,_,_,rfl,(t6.trans s7).more (by lia),gd.put st.k1 hb L.1 L.2,hpl.elim (fun z=>(ty.row z (by lia) _ _).cast (by lia)) (fun z=>(ty.row z (by lia) _ _).cast (by lia))⟩
  ·rintro σ H2 ⟨v,c',new,k',rfl,st,gd,ty⟩
   exact q _ _ _ _ (st.more (by lia)) gd (ty.cast (by lia))
 refine ⟨_,rfl,_,rfl,jq t4.gs (by have:=t4.c2;lia) (by decide) (by decide) fun y0 H5 y00 y01 s5=>?_⟩
 have t5:=t4.tick s5
 have l5:=t5.len
 refine ⟨rfl,_,rfl,?_⟩
 refine ite2 (fun _=>?_) (fun _=>last (t5.more (by lia)) g4 y4)
 refine ⟨_,rfl,_,rfl,_,rfl,_,rfl,jq t5.gs (by have:=t5.c2;lia) (by lia) (by lia) fun z H6 z0 z1 s6=>?_⟩
 have t6:=t5.tick s6
 have l6:=t6.len
 refine ⟨_,_,rfl,rfl,qb t6.gs (by lia) fun H7 s7=>?_⟩
 have t7:=t6.trans s7
 have l7:=t7.len
 refine ⟨_,rfl,qb t7.gs (by lia) fun H8 s8=>?_⟩
 have L6:=zJ (show (rs++n4).length≤15000 by lia)
 have L7:=zJ (km t7.len (show _≤15000 by lia))
 exact last ((t7.trans s8).more (by lia)) ((g4.put t4.k1 (z6F (by lia) (by lia)) L6.1 L6.2).put t4.k1 z2q L7.1 L7.2) (((y4.deep JV (n:=1+z) (by lia) _).row (j3 _ (by simp)) (by lia) _ _).cast (by lia))
end
section
theorem sc91:zn ["_law_script","_law_town_here","_law_rows","_law_marks","_law_deep","_law_way","_law_mark_here"] gps (ze (top 91)):=fsM
theorem QS {v:V} {a b:Str} (h:v∈([.str a,.str b]:List V)) {R:Str→Prop} (ha:R a) (hb:R b):∃op,v=.str op∧R op∧op∈[a,b]:=by
 rcases kw.mp h with e | h
 ·exact ⟨_,e,ha,by simp⟩
 ·exact ⟨_,kj.mp h,hb,by simp⟩
theorem z2A {v:V} (h:v∈([.str "add",.str "sub",.str "mul",.str "div",.str "rest",.str "less",.str "same"]:List V)):∃op,v=.str op∧Bare op .non∧jQ op 2 1:=by
 have all:∀v∈([.str "add",.str "sub",.str "mul",.str "div",.str "rest",.str "less",.str "same"]:List V),∃op,v=.str op∧zR op=some ("none":Str)∧jQ op 2 1:=by
  intro v h
  simp only [kw,kl,or_false] at h
  rcases h with rfl | rfl | rfl | rfl | rfl | rfl | rfl
  all_goals exact ⟨_,rfl,by trivial,ZD _ (by simp)⟩
 obtain ⟨op,e,hs,hp⟩:=all v h
 exact ⟨op,e,je hs,hp⟩
theorem fn_v {n:Nat} (D:zt K mg "_law_value" (top 91)) (S:jE P w K mg base) (FV:FN P w K mg base (3+2 * n) "_law_value" gps (qu K (CV n) 1 true)) (FT:FN P w K mg base (4+2 * n) "_law_tried_value" gps (qu K (CTV n) 1 true))
  (FM:FN P w K mg base (4+2 * n) "_law_moved_value" gps (qu K (CMV n) 1 true)):FN P w K mg base (3+2 * (n+1)) "_law_value" gps (qu K (CV (n+1)) 1 true):=by
 have:=FN.of (k:=4+2 * n) (sp:=qu K (CV (n+1)) 1 true) (P:=P) (w:=w) (base:=base) D sc91 (fun _ _ _ _ _ _=>zU5 fun _ _ _ _ _=>rfl) jo (fun f cdv A outer s H vs Q E hr h=>?_)
 ·exact this.mono (by lia)
 obtain ⟨p,c,rs,k,e,B,rfl,⟨d,he,hd,hB⟩,g,bc,br,bk,q⟩:=h
 have hr1:=hr.mono (show 1≤4+2 * n by lia)
 have hr2:=hr.mono (show 2≤4+2 * n by lia)
 have hr3:=hr.mono (show 3≤4+2 * n by lia)
 have hrV:=hr.mono (show 3+2 * n≤4+2 * n by lia)
 have hb3:=Jx d
 refine ⟨_,z8 (zI (i:=5) sc91.nd rfl (Or.inl rfl) (j6 (zk JN (pv 4) zc (zo _)) (zp S.draw hr1 rfl (z6 (pv 0) (z6 (pv 1) (z6 zc z7)))) (zp S.draw hr1 rfl (z6 (pv 0) (z6 (pv 1) (z6 zc z7))))))
  (zd (zH (zk Q2 (pv 5) zc (zo _)) (zd (zj (zA S.put3 hr1 rfl (z6 (pv 2) (z6 zf (z6 (zp S.const hr3 rfl (z6 (pv 0) (z6 (pv 1) z7))) z7))))))
  (zd (zH (zk Q2 (pv 5) zc (zo _)) (zd (zj (zA S.put3 hr1 rfl (z6 (pv 2) (z6 zf (z6 (zp S.pick hr2 rfl (z6 (pv 0) (z6 (pv 1) (z6 (zO (z6 zf (z6 zf (z6 zf z7)))) z7)))) z7))))))
  (zd (zH (zk Q2 (pv 5) zc (zo _))
   (z8 (zj (zp FV hrV rfl (z6 (pv 0) (z6 (pv 1) (z6 (pv 2) (z6 (pv 3) (z6 (zG qo (pv 4) zc) z7)))))))
   (z8 (zj (zp FV hrV rfl (z6 (pv 0) (z6 (pv 1) (z6 (pv 2) (z6 (pv 3) (z6 (zG qo (pv 4) zc) z7)))))))
   (zd (zj (zA S.put2 hr1 rfl (z6 (pv 2) (z6 (zp S.pick hr2 rfl (z6 (pv 0) (z6 (pv 1) (z6 (zO (z6 zf (z6 zf (z6 zf (z6 zf (z6 zf (z6 zf (z6 zf z7)))))))) z7)))) z7)))))))
  (zd (zH (zk qe (pv 5) zc (zo _))
   (z8 (zj (zp FV hrV rfl (z6 (pv 0) (z6 (pv 1) (z6 (pv 2) (z6 (pv 3) (z6 (zG qo (pv 4) zc) z7)))))))
   (zd (zj (zA S.put2 hr1 rfl (z6 (pv 2) (z6 (zp S.pick hr2 rfl (z6 (pv 0) (z6 (pv 1) (z6 (zO (z6 zf (z6 zf z7))) z7)))) z7))))))
  (zd (zH (zk qe (pv 5) zc (zo _))
   (z8 (zI (i:=6) sc91.nd rfl (Or.inl rfl) (zp S.mark hr1 rfl (z6 (pv 3) z7)))
   (z8 (zj (zp FV hrV rfl (z6 (pv 0) (z6 (pv 1) (z6 (pv 2) (z6 (pv 3) (z6 (zG qo (pv 4) zc) z7)))))))
   (z8 (zj (zA S.put3 hr1 rfl (z6 (pv 2) (z6 (zp S.pick hr2 rfl (z6 (pv 0) (z6 (pv 1) (z6 (zO (z6 zf (z6 zf z7))) z7)))) (z6 (pv 6) z7)))))
   (z8 (zj (zp FV hrV rfl (z6 (pv 0) (z6 (pv 1) (z6 (pv 2) (z6 (pv 3) (z6 (zG qo (pv 4) zc) z7)))))))
   (zd (zj (zA S.put3 hr1 rfl (z6 (pv 2) (z6 zf (z6 (pv 6) z7))))))))))
  (zd (zH (zk qe (pv 5) zc (zo _))
   (zd (zj (zp FT hr rfl (z6 (pv 0) (z6 (pv 1) (z6 (pv 2) (z6 (pv 3) (z6 (pv 4) z7))))))))
   (zd (zj (zp FM hr rfl (z6 (pv 0) (z6 (pv 1) (z6 (pv 2) (z6 (pv 3) (z6 (pv 4) z7)))))))))))))))))))) ,?_⟩
 refine ⟨_,rfl,_,_,rfl,rfl,_,rfl,?_⟩
 refine ite2 (fun c0=>?_) (fun c0=>?_)
 all_goals
  refine ⟨_,rfl,_,rfl,jq g (by lia) (by decide) (by decide) fun i H1 i0 i1 s1=>?_⟩
  have i12:i < 12:=by lia
  have i4:e≤0→i < 4:=fun z=>by
   first
    | exact i1
    | (have:=ku c0;lia)
  have l1:=s1.len
  refine ⟨_,rfl,_,_,rfl,rfl,_,rfl,?_⟩
  refine ite2 (fun c1=>?_) (fun c1=>?_)
  ·refine ⟨_,rfl,_,rfl,_,rfl,Qw s1.gs (by have:=s1.c2;lia) fun v H2 hv hvo s2=>?_⟩
   have t2:=s1.tick s2
   have l2:=t2.len
   refine qb t2.gs (by lia) fun H3 s3=>?_
   have L:=zJ (km t2.len (show _≤15000 by lia))
   exact q _ _ _ _ ((t2.trans s3).more (by lia)) ((Good.nil k).put (kc _) (Ja hv hvo) L.1 L.2) (((Ty.nil k).row jf (by decide) _ _).cast (by decide))
  ·refine ⟨_,rfl,_,_,rfl,rfl,_,rfl,?_⟩
   refine ite2 (fun c2=>?_) (fun c2=>?_)
   ·refine ⟨_,rfl,_,rfl,_,rfl,by show 3≤sizeLine;decide,fun x hx=>?_⟩
    refine qN s1.gs (by have:=s1.c2;lia) hx (by show 1≤3;decide) (by show 3≤1000;decide) fun v H2 hv s2=>?_
    have t2:=s1.tick s2
    have l2:=t2.len
    refine qb t2.gs (by lia) fun H3 s3=>?_
    have L:=zJ (km t2.len (show _≤15000 by lia))
    exact q _ _ _ _ ((t2.trans s3).more (by lia)) ((Good.nil k).put (kc _) (z14 hv) L.1 L.2) (((Ty.nil k).row z1o (by decide) _ _).cast (by decide))
   ·have c2:¬i < 4:=fun z=>c2 (kf z)
    have e0:¬e≤0:=fun z=>c2 (i4 z)
    obtain ⟨d',rfl⟩:∃d',d=d'+1:=⟨d - 1,by lia⟩
    have eB:bV (d'+1)=2 * bV d'+25:=rfl
    have cv:CV n (e - 1) (bV d'):=⟨d',by lia,by lia,rfl⟩
    refine ⟨_,rfl,_,_,rfl,rfl,_,rfl,?_⟩
    refine ite2 (fun c3=>?_) (fun c3=>?_)
    ·refine ⟨_,rfl,_,rfl,_,rfl,_,rfl,_,rfl,_,_,rfl,rfl,p,_,_,_,_,bV d',rfl,cv,s1.gs,(by have:=s1.c2;lia),(by lia),(by have:=s1.k2;lia),fun c4 n4 k4 H4 s4 g4 y4=>?_⟩
     have t4:=s1.trans s4
     have l4:=t4.len
     refine ⟨_,rfl,_,rfl,_,rfl,_,rfl,_,rfl,_,_,rfl,rfl,p,_,_,_,_,bV d',rfl,cv,t4.gs,(by have:=t4.c2;lia),(by lia),(by have:=t4.k2;lia),fun c5 n5 k5 H5 s5 g5 y5=>?_⟩
     have t5:=t4.trans s5
     have l5:=t5.len
     refine ⟨_,rfl,_,rfl,_,rfl,by show 7≤sizeLine;decide,fun x hx=>?_⟩
     refine qN t5.gs (by have:=t5.c2;lia) hx (by show 1≤7;decide) (by show 7≤1000;decide) fun v H6 hv s6=>?_
     obtain ⟨op,rfl,hb,hpl⟩:=z2A hv
     have t6:=t5.tick s6
     refine qb t6.gs (by have:=t6.len;lia) fun H7 s7=>?_
     have L:=zJ (km t6.len (show _≤15000 by lia))
     exact q _ _ _ _ ((t6.trans s7).more (by lia)) ((((Good.nil k).app g4 (kc _) s4.k1).app g5 s4.k1 s5.k1).put t5.k1 hb L.1 L.2) (((y4.app y5 s4.k1 s5.k1 (by decide)).row hpl (by decide) _ _).cast (by decide))
    ·refine ⟨_,rfl,rfl,_,rfl,?_⟩
     refine ite2 (fun c4=>?_) (fun c4=>?_)
     ·refine ⟨_,rfl,_,rfl,_,rfl,_,rfl,_,rfl,_,_,rfl,rfl,p,_,_,_,_,bV d',rfl,cv,s1.gs,(by have:=s1.c2;lia),(by lia),(by have:=s1.k2;lia),fun c4 n4 k4 H4 s4 g4 y4=>?_⟩
      have t4:=s1.trans s4
      have l4:=t4.len
      refine ⟨_,rfl,_,rfl,_,rfl,by show 2≤sizeLine;decide,fun x hx=>?_⟩
      refine qN t4.gs (by have:=t4.c2;lia) hx (by show 1≤2;decide) (by show 2≤1000;decide) fun v H6 hv s6=>?_
      obtain ⟨op,rfl,hb,hmem⟩:=QS hv (R:=fun op=>Bare op .non) (je (by trivial)) (je (by trivial))
      have t6:=t4.tick s6
      refine qb t6.gs (by have:=t6.len;lia) fun H7 s7=>?_
      have L:=zJ (km t6.len (show _≤15000 by lia))
      exact q _ _ _ _ ((t6.trans s7).more (by lia)) (((Good.nil k).app g4 (kc _) s4.k1).put t4.k1 hb L.1 L.2) ((y4.row (z1W _ hmem) (by decide) _ _).cast (by decide))
     ·refine ⟨_,rfl,rfl,_,rfl,?_⟩
      refine ite2 (fun c5=>?_) (fun c5=>?_)
      ·refine ⟨_,rfl,JF s1.gs (by have:=s1.k2;lia) fun H2 s2=>?_⟩
       have t2:=s1.tick s2
       refine ⟨_,rfl,_,rfl,_,rfl,_,rfl,_,rfl,_,_,rfl,rfl,p,_,_,_,_,bV d',rfl,cv,t2.gs,(by have:=t2.c2;lia),(by have:=t2.len;lia),(by have:=t2.k2;lia),fun c4 n4 k4 H4 s4 g4 y4=>?_⟩
       have t4:=t2.trans s4
       refine ⟨_,rfl,_,rfl,_,rfl,by show 2≤sizeLine;decide,fun x hx=>?_⟩
       refine qN t4.gs (by have:=t4.c2;lia) hx (by show 1≤2;decide) (by show 2≤1000;decide) fun v H5 hv s5=>?_
       obtain ⟨op,rfl,hb,hmem⟩:=QS hv (R:=Uses) z7U z7V
       have t5:=t4.tick s5
       refine ⟨_,rfl,qb t5.gs (by have:=t5.len;lia) fun H6 s6=>?_⟩
       have t6:=t5.trans s6
       refine ⟨_,rfl,_,rfl,_,rfl,_,rfl,_,rfl,_,_,rfl,rfl,p,_,_,_,_,bV d',rfl,cv,t6.gs,(by have:=t6.c2;lia),(by have:=t6.len;lia),(by have:=t6.k2;lia),fun c7 n7 k7 H7 s7 g7 y7=>?_⟩
       have t7:=t6.trans s7
       refine ⟨_,rfl,_,rfl,qb t7.gs (by have:=t7.len;lia) fun H8 s8=>?_⟩
       have L5:=zJ (km t5.len (show _≤15000 by lia))
       have L7:=zJ (km t7.len (show _≤15000 by lia))
       refine q _ _ _ _ ((t7.trans s8).more (by lia)) ⟨((((AllG.nil.app g4.row).app (AllG.one (hb.rowG L5.1 L5.2))).app g7.row).app (AllG.one (qw L7.1 L7.2))),fun m=>?_,fun m h=>?_,fun m h=>?_,fun m ha hb'=>?_⟩ (Ty.orv y4 y7 s4.k1 s7.k1 hmem _ _)
       ·simp only [zN,qk,qf,hb.noLab]
        have:=g4.lab1 m;have:=g4.labI m;have:=g7.lab1 m;have:=g7.labI m;have:=zL m k;have:=s4.k1
        lia
       ·simp only [zN,qk,qf,hb.noLab] at h
        have:=g4.labI m;have:=g7.labI m;have:=zL m k;have:=s4.k1;have:=s7.k1
        lia
       ·simp only [jm,ZV,Zn,hb.use] at h
        simp only [zN,qk,qf,hb.noLab]
        have:=g4.useI m;have:=g7.useI m
        lia
       ·simp only [zN,qk,qf,hb.noLab]
        have:=g4.labA m;have:=g7.labA m;have:=zL m k
        lia
      ·refine ⟨_,rfl,rfl,_,rfl,?_⟩
       refine ite2 (fun c6=>?_) (fun c6=>?_)
       ·refine ⟨_,rfl,_,rfl,_,rfl,_,rfl,_,rfl,p,_,_,_,_,bV d'+7,rfl,⟨d',by lia,by lia,rfl⟩,s1.gs,(by have:=s1.c2;lia),(by lia),(by have:=s1.k2;lia),fun c4 n4 k4 H4 s4 g4 y4=>?_⟩
        exact q _ _ _ _ ((s1.trans s4).more (by lia)) ((Good.nil k).app g4 (kc _) s4.k1) y4
       ·refine ⟨_,rfl,_,rfl,_,rfl,_,rfl,_,rfl,p,_,_,_,_,30,rfl,⟨by lia,rfl⟩,s1.gs,(by have:=s1.c2;have:=Jx d';lia),(by have:=Jx d';lia),(by have:=s1.k2;have:=Jx d';lia),fun c4 n4 k4 H4 s4 g4 y4=>?_⟩
        exact q _ _ _ _ ((s1.trans s4).more (by have:=Jx d';lia)) ((Good.nil k).app g4 (kc _) s4.k1) y4
theorem z2f {name:Str} {st:Stmt} {k:Nat} {C:Int→Nat→Prop} {δ:Int} {su:Bool} (D:zt K mg name st) (hb:∀(kV doc pm:Value) (an:Option Addr) (cdv ct:Value) (us:List Value),us.length=gps.length→bindArgs (PySem.W.fnOf name name (qH st) (zV st) (ze st) .none kV doc pm an cdv ct) ⟨us,[]⟩=pure (gps.zip us))
  (no:∀e B,¬C e B):FN P w K mg base k name gps (qu K C δ su):=by
 obtain ⟨f,fd,F,m⟩:=D
 have no':∀vs H Q E,¬qu K C δ su vs H Q E:=fun vs H Q E h=>by
  obtain ⟨_,_,_,_,e,B,_,hc,_⟩:=h
  exact no e B hc
 exact ⟨f,fd,m,F.kp,F.binds hb,⟨fun vs H Q E h=>absurd h (no' vs H Q E),fun A outer s H args us vs Q E _ _ _ _ h=>absurd h (no' vs H Q E)⟩⟩
theorem z0L (DV:zt K mg "_law_value" (top 91)) (DT:zt K mg "_law_tried_value" (top 92)) (DM:zt K mg "_law_moved_value" (top 93)) (G:Glo mg) (S:jE P w K mg base):∀n,FN P w K mg base (3+2 * n) "_law_value" gps (qu K (CV n) 1 true)
 | 0=>z2f DV (fun _ _ _ _ _ _=>zU5 fun _ _ _ _ _=>rfl) fun e B ⟨d,_,h,_⟩=>absurd h (Nat.not_lt_zero _)
 | n+1=>by
  have ih:=z0L DV DT DM G S n
  exact fn_v DV S ih (z9C DT S ih) (z8O DM G S ih)
end
noncomputable def bD:Nat→Nat
 | 0=>92
 | d+1=>2 * bD d+200
theorem z15:∀d,92≤bD d
 | 0=>kc _
 | d+1=>by have:=z15 d;show 92≤2 * bD d+200;lia
def CD (n:Nat) (e:Int) (B:Nat):Prop:=∃d:Nat,e=(d:Int)∧d < n∧B=bD d
def CC (n:Nat) (e:Int) (B:Nat):Prop:=∃d:Nat,e=(d:Int)+1∧d < n∧B=2 * bD d+150
theorem Ty.choice0 {k k1 k2:Nat} {l1 l2:List Row} {s2:Bool} (x:Ty 1 true (k+2) k1 l1) (y:Ty 0 s2 k1 k2 l2) (h1:k+2≤k1) (h2:k1≤k2) {op:Str} (ho:op∈(["iftrue","iffalse"]:List Str)) (a b c e:Int):
  Ty 0 true k k2 (l1++[⟨op,.int (k:Int),a⟩]++l2++[⟨"jump",.int ((k+1:Nat):Int),b⟩]++[⟨"label",.int (k:Int),c⟩]++[⟨"label",.int ((k+1:Nat):Int),e⟩]):=by
 have:=Ty.choice x y (Ty.nil k2) h1 h2 (kc _) ho a b c e
 rw [kO] at this
 exact this
theorem cv1:CV 3 1 31:=⟨1,rfl,by decide,rfl⟩
theorem cv2:CV 3 2 87:=⟨2,rfl,by decide,rfl⟩
theorem cv0:CV 3 0 3:=⟨0,rfl,by decide,rfl⟩
section
theorem sc95:zn ["_law_script","_law_town_here","_law_rows","_law_marks","_law_deep","_law_other","_law_end"] gps (ze (top 95)):=fsM
theorem z4x {n:Nat} (D:zt K mg "_law_choice" (top 95)) (S:jE P w K mg base) (FV:FN P w K mg base 9 "_law_value" gps (qu K (CV 3) 1 true)) (FD:FN P w K mg base (10+2 * n) "_law_deed" gps (qu K (CD n) 0 false)):FN P w K mg base (11+2 * n) "_law_choice" gps (qu K (CC n) 0 false):=by
 have:=FN.of (k:=10+2 * n) (sp:=qu K (CC n) 0 false) (P:=P) (w:=w) (base:=base) D sc95 (fun _ _ _ _ _ _=>zU5 fun _ _ _ _ _=>rfl) jo (fun f cdv A outer s H vs Q E hr h=>?_)
 ·exact this.mono (by lia)
 obtain ⟨p,c,rs,k,e,B,rfl,⟨d,he,hd,hB⟩,g,bc,br,bk,q⟩:=h
 have hr1:=hr.mono (show 1≤10+2 * n by lia)
 have hr2:=hr.mono (show 2≤10+2 * n by lia)
 have hr9:=hr.mono (show 9≤10+2 * n by lia)
 have bp:=z15 d
 have cd:CD n (e - 1) (bD d):=⟨d,by lia,hd,rfl⟩
 refine ⟨_,z8 (Qc (i:=5) (j:=6) rfl sc95.nd rfl rfl (by decide) rfl rfl (z6 (zp S.mark hr1 rfl (z6 (pv 3) z7)) (z6 (zp S.mark hr1 rfl (z6 (pv 3) z7)) z7)) rfl)
  (z8 (zj (zp FV hr9 rfl (z6 (pv 0) (z6 (pv 1) (z6 (pv 2) (z6 (pv 3) (z6 zc z7)))))))
  (z8 (zj (zA S.put3 hr1 rfl (z6 (pv 2) (z6 (zp S.pick hr2 rfl (z6 (pv 0) (z6 (pv 1) (z6 (zO (z6 zf (z6 zf z7))) z7)))) (z6 (pv 5) z7)))))
  (z8 (zj (zp FD hr rfl (z6 (pv 0) (z6 (pv 1) (z6 (pv 2) (z6 (pv 3) (z6 (zG qo (pv 4) zc) z7)))))))
  (z8 (zj (zA S.put3 hr1 rfl (z6 (pv 2) (z6 zf (z6 (pv 6) z7)))))
  (z8 (zj (zA S.put3 hr1 rfl (z6 (pv 2) (z6 zf (z6 (pv 5) z7)))))
  (z8 (zH (zk qe (zp S.draw hr1 rfl (z6 (pv 0) (z6 (pv 1) (z6 zc z7)))) zc (zo _))
   (zd (zj (zp FD hr rfl (z6 (pv 0) (z6 (pv 1) (z6 (pv 2) (z6 (pv 3) (z6 (zG qo (pv 4) zc) z7)))))))) zu)
  (zd (zj (zA S.put3 hr1 rfl (z6 (pv 2) (z6 zf (z6 (pv 6) z7)))))))))))) ,?_⟩
 refine ⟨_,rfl,JF g (by lia) fun H1 s1=>?_⟩
 refine ⟨_,rfl,JF s1.gs (by have:=s1.k2;lia) fun H2 s2=>?_⟩
 refine ⟨_,_,rfl,?_⟩
 have t2:=s1.tick s2
 refine ⟨_,rfl,_,rfl,_,rfl,_,rfl,p,_,_,_,_,31,rfl,cv1,t2.gs,(by have:=t2.c2;lia),(by have:=t2.len;lia),(by have:=t2.k2;lia),fun c3 n3 k3 H3 s3 g3 y3=>?_⟩
 have t3:=t2.trans s3
 refine ⟨_,rfl,_,rfl,_,rfl,by show 2≤sizeLine;decide,fun x hx=>?_⟩
 refine qN t3.gs (by have:=t3.c2;lia) hx (by show 1≤2;decide) (by show 2≤1000;decide) fun v H4 hv s4=>?_
 obtain ⟨op,rfl,hb,hmem⟩:=QS hv (R:=Uses) z06 z7W
 have hmem:op∈(["iftrue","iffalse"]:List Str):=by
  rcases kw.mp hmem with z | z
  ·rw [z];decide+kernel
  ·rw [kj.mp z];decide+kernel
 have t4:=t3.tick s4
 refine ⟨_,rfl,qb t4.gs (by have:=t4.len;lia) fun H5 s5=>?_⟩
 have t5:=t4.trans s5
 refine ⟨_,rfl,_,rfl,_,rfl,_,rfl,_,rfl,_,_,rfl,rfl,p,_,_,_,_,bD d,rfl,cd,t5.gs,(by have:=t5.c2;lia),(by have:=t5.len;lia),(by have:=t5.k2;lia),fun c6 n6 k6 H6 s6 g6 y6=>?_⟩
 have t6:=t5.trans s6
 refine ⟨_,rfl,_,rfl,qb t6.gs (by have:=t6.len;lia) fun H7 s7=>?_⟩
 have t7:=t6.trans s7
 refine ⟨_,rfl,_,rfl,qb t7.gs (by have:=t7.len;lia) fun H8 s8=>?_⟩
 have t8:=t7.trans s8
 refine ⟨_,rfl,_,rfl,jq t8.gs (by have:=t8.c2;lia) (by decide) (by decide) fun y0 H9 y00 y01 s9=>?_⟩
 have t9:=t8.tick s9
 have L4:=zJ (km t4.len (show _≤15000 by lia))
 have L6:=zJ (km t6.len (show _≤15000 by lia))
 have L7:=zJ (km t7.len (show _≤15000 by lia))
 have all9:=((((AllG.nil.app g3.row).app (AllG.one (hb.rowG (j:=k) L4.1 L4.2))).app g6.row).app (AllG.one (qg.rowG (j:=k+1) L6.1 L6.2))).app (AllG.one (qw (j:=k) L7.1 L7.2))
 refine ⟨rfl,_,rfl,?_⟩
 refine ite2 (fun _=>?_) (fun _=>?_)
 ·refine ⟨_,rfl,_,rfl,_,rfl,_,rfl,_,rfl,_,_,rfl,rfl,p,_,_,_,_,bD d,rfl,cd,t9.gs,(by have:=t9.c2;lia),(by have:=t9.len;lia),(by have:=t9.k2;lia),fun cA nA kA HA sA gA yA=>?_⟩
  have tA:=t9.trans sA
  refine ⟨_,rfl,_,rfl,qb tA.gs (by have:=tA.len;lia) fun HB sB=>?_⟩
  have LA:=zJ (km tA.len (show _≤15000 by lia))
  refine q _ _ _ _ ((tA.trans sB).more (by lia)) ⟨(all9.app gA.row).app (AllG.one (qw LA.1 LA.2)),fun m=>?_,fun m h=>?_,fun m h=>?_,fun m ha hb'=>?_⟩ (Ty.choice y3 y6 yA s3.k1 s6.k1 sA.k1 hmem _ _ _ _).weak
  ·simp only [zN,qk,qf,hb.noLab,qg.noLab]
   have:=g3.lab1 m;have:=g3.labI m;have:=g6.lab1 m;have:=g6.labI m;have:=gA.lab1 m;have:=gA.labI m;have:=zL m k;have:=zL m (k+1);have:=s3.k1;have:=s6.k1
   lia
  ·simp only [zN,qk,qf,hb.noLab,qg.noLab] at h
   have:=g3.labI m;have:=g6.labI m;have:=gA.labI m;have:=zL m k;have:=zL m (k+1);have:=s3.k1;have:=s6.k1;have:=sA.k1
   lia
  ·simp only [jm,ZV,Zn,hb.use,qg.use] at h
   simp only [zN,qk,qf,hb.noLab,qg.noLab]
   have:=g3.useI m;have:=g6.useI m;have:=gA.useI m
   lia
  ·simp only [zN,qk,qf,hb.noLab,qg.noLab]
   have:=g3.labA m;have:=g6.labA m;have:=gA.labA m;have:=zL m k;have:=zL m (k+1)
   lia
 ·refine ⟨_,rfl,_,rfl,qb t9.gs (by have:=t9.len;lia) fun HB sB=>?_⟩
  have LA:=zJ (km t9.len (show _≤15000 by lia))
  refine q _ _ _ _ ((t9.trans sB).more (by lia)) ⟨all9.app (AllG.one (qw LA.1 LA.2)),fun m=>?_,fun m h=>?_,fun m h=>?_,fun m ha hb'=>?_⟩ (Ty.choice0 y3 y6 s3.k1 s6.k1 hmem _ _ _ _).weak
  ·simp only [zN,qk,qf,hb.noLab,qg.noLab]
   have:=g3.lab1 m;have:=g3.labI m;have:=g6.lab1 m;have:=g6.labI m;have:=zL m k;have:=zL m (k+1);have:=s3.k1
   lia
  ·simp only [zN,qk,qf,hb.noLab,qg.noLab] at h
   have:=g3.labI m;have:=g6.labI m;have:=zL m k;have:=zL m (k+1);have:=s3.k1;have:=s6.k1
   lia
  ·simp only [jm,ZV,Zn,hb.use,qg.use] at h
   simp only [zN,qk,qf,hb.noLab,qg.noLab]
   have:=g3.useI m;have:=g6.useI m
   lia
  ·simp only [zN,qk,qf,hb.noLab,qg.noLab]
   have:=g3.labA m;have:=g6.labA m;have:=zL m k;have:=zL m (k+1)
   lia
theorem sc96:zn ["_law_script","_law_town_here","_law_rows","_law_marks","_law_deep","_law_begin","_law_end"] gps (ze (top 96)):=fsM
theorem z5S {n:Nat} (D:zt K mg "_law_round" (top 96)) (S:jE P w K mg base) (FV:FN P w K mg base 9 "_law_value" gps (qu K (CV 3) 1 true)) (FD:FN P w K mg base (10+2 * n) "_law_deed" gps (qu K (CD n) 0 false)):FN P w K mg base (11+2 * n) "_law_round" gps (qu K (CC n) 0 false):=by
 have:=FN.of (k:=10+2 * n) (sp:=qu K (CC n) 0 false) (P:=P) (w:=w) (base:=base) D sc96 (fun _ _ _ _ _ _=>zU5 fun _ _ _ _ _=>rfl) jo (fun f cdv A outer s H vs Q E hr h=>?_)
 ·exact this.mono (by lia)
 obtain ⟨p,c,rs,k,e,B,rfl,⟨d,he,hd,hB⟩,g,bc,br,bk,q⟩:=h
 have hr1:=hr.mono (show 1≤10+2 * n by lia)
 have hr9:=hr.mono (show 9≤10+2 * n by lia)
 have bp:=z15 d
 have cd:CD n (e - 1) (bD d):=⟨d,by lia,hd,rfl⟩
 refine ⟨_,z8 (Qc (i:=5) (j:=6) rfl sc96.nd rfl rfl (by decide) rfl rfl (z6 (zp S.mark hr1 rfl (z6 (pv 3) z7)) (z6 (zp S.mark hr1 rfl (z6 (pv 3) z7)) z7)) rfl)
  (z8 (zj (zA S.put3 hr1 rfl (z6 (pv 2) (z6 zf (z6 (pv 5) z7)))))
  (z8 (zj (zp FV hr9 rfl (z6 (pv 0) (z6 (pv 1) (z6 (pv 2) (z6 (pv 3) (z6 zc z7)))))))
  (z8 (zj (zA S.put3 hr1 rfl (z6 (pv 2) (z6 zf (z6 (pv 6) z7)))))
  (z8 (zj (zp FD hr rfl (z6 (pv 0) (z6 (pv 1) (z6 (pv 2) (z6 (pv 3) (z6 (zG qo (pv 4) zc) z7)))))))
  (z8 (zj (zA S.put3 hr1 rfl (z6 (pv 2) (z6 zf (z6 (pv 5) z7)))))
  (zd (zj (zA S.put3 hr1 rfl (z6 (pv 2) (z6 zf (z6 (pv 6) z7))))))))))),?_⟩
 refine ⟨_,rfl,JF g (by lia) fun H1 s1=>?_⟩
 refine ⟨_,rfl,JF s1.gs (by have:=s1.k2;lia) fun H2 s2=>?_⟩
 refine ⟨_,_,rfl,?_⟩
 have t2:=s1.tick s2
 refine ⟨_,rfl,_,rfl,qb t2.gs (by have:=t2.len;lia) fun H3 s3=>?_⟩
 have t3:=t2.trans s3
 refine ⟨_,rfl,_,rfl,_,rfl,_,rfl,p,_,_,_,_,31,rfl,cv1,t3.gs,(by have:=t3.c2;lia),(by have:=t3.len;lia),(by have:=t3.k2;lia),fun c4 n4 k4 H4 s4 g4 y4=>?_⟩
 have t4:=t3.trans s4
 refine ⟨_,rfl,_,rfl,qb t4.gs (by have:=t4.len;lia) fun H5 s5=>?_⟩
 have t5:=t4.trans s5
 refine ⟨_,rfl,_,rfl,_,rfl,_,rfl,_,rfl,_,_,rfl,rfl,p,_,_,_,_,bD d,rfl,cd,t5.gs,(by have:=t5.c2;lia),(by have:=t5.len;lia),(by have:=t5.k2;lia),fun c6 n6 k6 H6 s6 g6 y6=>?_⟩
 have t6:=t5.trans s6
 refine ⟨_,rfl,_,rfl,qb t6.gs (by have:=t6.len;lia) fun H7 s7=>?_⟩
 have t7:=t6.trans s7
 refine ⟨_,rfl,_,rfl,qb t7.gs (by have:=t7.len;lia) fun H8 s8=>?_⟩
 have L2:=zJ (km t2.len (show _≤15000 by lia))
 have L4:=zJ (km t4.len (show _≤15000 by lia))
 have L6:=zJ (km t6.len (show _≤15000 by lia))
 have L7:=zJ (km t7.len (show _≤15000 by lia))
 refine q _ _ _ _ ((t7.trans s8).more (by lia)) ⟨((((((AllG.nil.app (AllG.one (qw L2.1 L2.2))).app g4.row).app (AllG.one (z06.rowG L4.1 L4.2))).app g6.row).app (AllG.one (qg.rowG L6.1 L6.2))).app (AllG.one (qw L7.1 L7.2))),fun m=>?_,fun m h=>?_,fun m h=>?_,fun m ha hb'=>?_⟩ (Ty.round y4 y6 s4.k1 s6.k1 _ _ _ _).weak
 ·simp only [zN,qk,qf,z06.noLab,qg.noLab]
  have:=g4.lab1 m;have:=g4.labI m;have:=g6.lab1 m;have:=g6.labI m;have:=zL m k;have:=zL m (k+1);have:=s4.k1
  lia
 ·simp only [zN,qk,qf,z06.noLab,qg.noLab] at h
  have:=g4.labI m;have:=g6.labI m;have:=zL m k;have:=zL m (k+1);have:=s4.k1;have:=s6.k1
  lia
 ·simp only [jm,ZV,Zn,z06.use,qg.use] at h
  simp only [zN,qk,qf,z06.noLab,qg.noLab]
  have:=g4.useI m;have:=g6.useI m
  lia
 ·simp only [zN,qk,qf,z06.noLab,qg.noLab]
  have:=g4.labA m;have:=g6.labA m;have:=zL m k;have:=zL m (k+1)
  lia
theorem sc97:zn ["_law_script","_law_town_here","_law_rows","_law_marks","_law_deep","_law_hand","_law_end"] gps (ze (top 97)):=fsM
theorem z3Q {v:V} (h:v∈([.str "drop",.str "tell",.str "raise"]:List V)):∃op,v=.str op∧Bare op .non∧op∈(["drop","tell","raise"]:List Str):=by
 rcases kw.mp h with e | h
 ·exact ⟨_,e,z2q,by simp⟩
 ·rcases kw.mp h with e | h
  ·exact ⟨_,e,Zm,by simp⟩
  ·exact ⟨_,kj.mp h,z4Z,by simp⟩
theorem z5R {n:Nat} (D:zt K mg "_law_tried" (top 97)) (S:jE P w K mg base) (FD:FN P w K mg base (10+2 * n) "_law_deed" gps (qu K (CD n) 0 false)):FN P w K mg base (11+2 * n) "_law_tried" gps (qu K (CC n) 0 false):=by
 have:=FN.of (k:=10+2 * n) (sp:=qu K (CC n) 0 false) (P:=P) (w:=w) (base:=base) D sc97 (fun _ _ _ _ _ _=>zU5 fun _ _ _ _ _=>rfl) jo (fun f cdv A outer s H vs Q E hr h=>?_)
 ·exact this.mono (by lia)
 obtain ⟨p,c,rs,k,e,B,rfl,⟨d,he,hd,hB⟩,g,bc,br,bk,q⟩:=h
 have hr1:=hr.mono (show 1≤10+2 * n by lia)
 have hr2:=hr.mono (show 2≤10+2 * n by lia)
 have bp:=z15 d
 have cd:CD n (e - 1) (bD d):=⟨d,by lia,hd,rfl⟩
 have cd0:CD n 0 92:=⟨0,rfl,by lia,rfl⟩
 refine ⟨_,z8 (Qc (i:=5) (j:=6) rfl sc97.nd rfl rfl (by decide) rfl rfl (z6 (zp S.mark hr1 rfl (z6 (pv 3) z7)) (z6 (zp S.mark hr1 rfl (z6 (pv 3) z7)) z7)) rfl)
  (z8 (zj (zA S.put3 hr1 rfl (z6 (pv 2) (z6 zf (z6 (pv 5) z7)))))
  (z8 (zj (zp FD hr rfl (z6 (pv 0) (z6 (pv 1) (z6 (pv 2) (z6 (pv 3) (z6 (zG qo (pv 4) zc) z7)))))))
  (z8 (zj (zp FD hr rfl (z6 (pv 0) (z6 (pv 1) (z6 (pv 2) (z6 (pv 3) (z6 zc z7)))))))
  (z8 (zj (zA S.put2 hr1 rfl (z6 (pv 2) (z6 zf z7))))
  (z8 (zj (zA S.put3 hr1 rfl (z6 (pv 2) (z6 zf (z6 (pv 6) z7)))))
  (z8 (zj (zA S.put3 hr1 rfl (z6 (pv 2) (z6 zf (z6 (pv 5) z7)))))
  (z8 (zj (zA S.put2 hr1 rfl (z6 (pv 2) (z6 (zp S.pick hr2 rfl (z6 (pv 0) (z6 (pv 1) (z6 (zO (z6 zf (z6 zf (z6 zf z7)))) z7)))) z7))))
  (z8 (zj (zp FD hr rfl (z6 (pv 0) (z6 (pv 1) (z6 (pv 2) (z6 (pv 3) (z6 zc z7)))))))
  (zd (zj (zA S.put3 hr1 rfl (z6 (pv 2) (z6 zf (z6 (pv 6) z7)))))))))))))) ,?_⟩
 refine ⟨_,rfl,JF g (by lia) fun H1 s1=>?_⟩
 refine ⟨_,rfl,JF s1.gs (by have:=s1.k2;lia) fun H2 s2=>?_⟩
 refine ⟨_,_,rfl,?_⟩
 have t2:=s1.tick s2
 refine ⟨_,rfl,_,rfl,qb t2.gs (by have:=t2.len;lia) fun H3 s3=>?_⟩
 have t3:=t2.trans s3
 refine ⟨_,rfl,_,rfl,_,rfl,_,rfl,_,rfl,_,_,rfl,rfl,p,_,_,_,_,bD d,rfl,cd,t3.gs,(by have:=t3.c2;lia),(by have:=t3.len;lia),(by have:=t3.k2;lia),fun c4 n4 k4 H4 s4 g4 y4=>?_⟩
 have t4:=t3.trans s4
 refine ⟨_,rfl,_,rfl,_,rfl,_,rfl,p,_,_,_,_,92,rfl,cd0,t4.gs,(by have:=t4.c2;lia),(by have:=t4.len;lia),(by have:=t4.k2;lia),fun c5 n5 k5 H5 s5 g5 y5=>?_⟩
 have t5:=t4.trans s5
 refine ⟨_,rfl,qb t5.gs (by have:=t5.len;lia) fun H6 s6=>?_⟩
 have t6:=t5.trans s6
 refine ⟨_,rfl,_,rfl,qb t6.gs (by have:=t6.len;lia) fun H7 s7=>?_⟩
 have t7:=t6.trans s7
 refine ⟨_,rfl,_,rfl,qb t7.gs (by have:=t7.len;lia) fun H8 s8=>?_⟩
 have t8:=t7.trans s8
 refine ⟨_,rfl,_,rfl,_,rfl,by show 3≤sizeLine;decide,fun x hx=>?_⟩
 refine qN t8.gs (by have:=t8.c2;lia) hx (by show 1≤3;decide) (by show 3≤1000;decide) fun v H9 hv s9=>?_
 obtain ⟨op,rfl,hb,hmem⟩:=z3Q hv
 have t9:=t8.tick s9
 refine qb t9.gs (by have:=t9.len;lia) fun HA sA=>?_
 have tA:=t9.trans sA
 refine ⟨_,rfl,_,rfl,_,rfl,_,rfl,p,_,_,_,_,92,rfl,cd0,tA.gs,(by have:=tA.c2;lia),(by have:=tA.len;lia),(by have:=tA.k2;lia),fun cB nB kB HB sB gB yB=>?_⟩
 have tB:=tA.trans sB
 refine ⟨_,rfl,_,rfl,qb tB.gs (by have:=tB.len;lia) fun HC sC=>?_⟩
 have L2:=zJ (km t2.len (show _≤15000 by lia))
 have L5:=zJ (km t5.len (show _≤15000 by lia))
 have L6:=zJ (km t6.len (show _≤15000 by lia))
 have L7:=zJ (km t7.len (show _≤15000 by lia))
 have L9:=zJ (km t9.len (show _≤15000 by lia))
 have LB:=zJ (km tB.len (show _≤15000 by lia))
 refine q _ _ _ _ ((tB.trans sC).more (by lia)) ⟨(((((((((AllG.nil.app (AllG.one (Qk.rowG L2.1 L2.2))).app g4.row).app g5.row).app (AllG.one (Qn.rowG L5.1 L5.2))).app (AllG.one (qg.rowG L6.1 L6.2))).app (AllG.one (qw L7.1 L7.2))).app (AllG.one (hb.rowG L9.1 L9.2))).app gB.row).app (AllG.one (qw LB.1 LB.2))),fun m=>?_,fun m h=>?_,fun m h=>?_,fun m ha hb'=>?_⟩ (by
  have yy:=fun a b c e f g=>(Ty.tried (y4.app y5 s4.k1 s5.k1 (by decide)) yB (km s4.k1 s5.k1) sB.k1 hmem a b c e f g).weak
  simp only [←kP] at yy
  exact yy _ _ _ _ _ _)
 ·simp only [zN,qk,qf,Qk.noLab,qg.noLab,Qn.noLab,hb.noLab]
  have:=g4.lab1 m;have:=g4.labI m;have:=g5.lab1 m;have:=g5.labI m;have:=gB.lab1 m;have:=gB.labI m;have:=zL m k;have:=zL m (k+1);have:=s4.k1;have:=s5.k1
  lia
 ·simp only [zN,qk,qf,Qk.noLab,qg.noLab,Qn.noLab,hb.noLab] at h
  have:=g4.labI m;have:=g5.labI m;have:=gB.labI m;have:=zL m k;have:=zL m (k+1);have:=s4.k1;have:=s5.k1;have:=sB.k1
  lia
 ·simp only [jm,ZV,Zn,Qk.use,qg.use,Qn.noUse,hb.noUse] at h
  simp only [zN,qk,qf,Qk.noLab,qg.noLab,Qn.noLab,hb.noLab]
  have:=g4.useI m;have:=g5.useI m;have:=gB.useI m
  lia
 ·simp only [zN,qk,qf,Qk.noLab,qg.noLab,Qn.noLab,hb.noLab]
  have:=g4.labA m;have:=g5.labA m;have:=gB.labA m;have:=zL m k;have:=zL m (k+1)
  lia
end
section
theorem sc94:zn ["_law_script","_law_town_here","_law_rows","_law_marks","_law_deep","_law_way"] gps (ze (top 94)):=fsM
theorem z7E {n:Nat} (D:zt K mg "_law_deed" (top 94)) (S:jE P w K mg base) (FV:FN P w K mg base 9 "_law_value" gps (qu K (CV 3) 1 true)) (FC:FN P w K mg base (11+2 * n) "_law_choice" gps (qu K (CC n) 0 false)) (FR:FN P w K mg base (11+2 * n) "_law_round" gps (qu K (CC n) 0 false))
  (FT:FN P w K mg base (11+2 * n) "_law_tried" gps (qu K (CC n) 0 false)):FN P w K mg base (10+2 * (n+1)) "_law_deed" gps (qu K (CD (n+1)) 0 false):=by
 have:=FN.of (k:=11+2 * n) (sp:=qu K (CD (n+1)) 0 false) (P:=P) (w:=w) (base:=base) D sc94 (fun _ _ _ _ _ _=>zU5 fun _ _ _ _ _=>rfl) jo (fun f cdv A outer s H vs Q E hr h=>?_)
 ·exact this.mono (by lia)
 obtain ⟨p,c,rs,k,e,B,rfl,⟨d,he,hd,hB⟩,g,bc,br,bk,q⟩:=h
 have hr1:=hr.mono (show 1≤11+2 * n by lia)
 have hr2:=hr.mono (show 2≤11+2 * n by lia)
 have hr9:=hr.mono (show 9≤11+2 * n by lia)
 have hb3:=z15 d
 refine ⟨_,z8 (zI (i:=5) sc94.nd rfl (Or.inl rfl) (j6 (zk JN (pv 4) zc (zo _)) (zp S.draw hr1 rfl (z6 (pv 0) (z6 (pv 1) (z6 zc z7)))) (zp S.draw hr1 rfl (z6 (pv 0) (z6 (pv 1) (z6 zc z7))))))
  (zd (zH (zk Q2 (pv 5) zc (zo _))
   (z8 (zj (zp FV hr9 rfl (z6 (pv 0) (z6 (pv 1) (z6 (pv 2) (z6 (pv 3) (z6 zc z7)))))))
    (zd (zj (zA S.put3 hr1 rfl (z6 (pv 2) (z6 zf (z6 (zp S.pick hr2 rfl (z6 (pv 0) (z6 (pv 1) (z6 (zO (z6 zf (z6 zf (z6 zf z7)))) z7)))) z7)))))))
  (zd (zH (zk qe (pv 5) zc (zo _))
   (z8 (zj (zp FV hr9 rfl (z6 (pv 0) (z6 (pv 1) (z6 (pv 2) (z6 (pv 3) (z6 zc z7)))))))
    (zd (zj (zA S.put2 hr1 rfl (z6 (pv 2) (z6 zf z7))))))
  (zd (zH (zk qe (pv 5) zc (zo _))
   (zd (zj (zA S.put3 hr1 rfl (z6 (pv 2) (z6 zf (z6 (zp S.pick hr2 rfl (z6 (pv 0) (z6 (pv 1) (z6 (zO (z6 zf (z6 zf z7))) z7)))) z7))))))
  (zd (zH (zk Q2 (pv 5) zc (zo _))
   (zd (zj (zp FC hr rfl (z6 (pv 0) (z6 (pv 1) (z6 (pv 2) (z6 (pv 3) (z6 (pv 4) z7))))))))
  (zd (zH (zk Q2 (pv 5) zc (zo _))
   (zd (zj (zp FR hr rfl (z6 (pv 0) (z6 (pv 1) (z6 (pv 2) (z6 (pv 3) (z6 (pv 4) z7))))))))
  (zd (zH (zk qe (pv 5) zc (zo _))
   (zd (zj (zp FT hr rfl (z6 (pv 0) (z6 (pv 1) (z6 (pv 2) (z6 (pv 3) (z6 (pv 4) z7))))))))
   (z8 (zj (zp FV hr9 rfl (z6 (pv 0) (z6 (pv 1) (z6 (pv 2) (z6 (pv 3) (z6 zc z7)))))))
    (zd (zj (zA S.put2 hr1 rfl (z6 (pv 2) (z6 zf z7)))))))))))))))))) ,?_⟩
 refine ⟨_,rfl,_,_,rfl,rfl,_,rfl,?_⟩
 refine ite2 (fun c0=>?_) (fun c0=>?_)
 all_goals
  refine ⟨_,rfl,_,rfl,jq g (by lia) (by decide) (by decide) fun i H1 i0 i1 s1=>?_⟩
  have i12:i < 10:=by lia
  have i4:e≤0→i < 4:=fun z=>by
   first
    | exact i1
    | (have:=ku c0;lia)
  have l1:=s1.len
  refine ⟨_,rfl,_,_,rfl,rfl,_,rfl,?_⟩
  refine ite2 (fun c1=>?_) (fun c1=>?_)
  ·refine ⟨_,rfl,_,rfl,_,rfl,_,rfl,p,_,_,_,_,31,rfl,cv1,s1.gs,(by have:=s1.c2;lia),(by lia),(by have:=s1.k2;lia),fun c4 n4 k4 H4 s4 g4 y4=>?_⟩
   have t4:=s1.trans s4
   refine ⟨_,rfl,_,rfl,_,rfl,by show 3≤sizeLine;decide,fun x hx=>?_⟩
   refine qN t4.gs (by have:=t4.c2;lia) hx (by show 1≤3;decide) (by show 3≤1000;decide) fun v H5 hv s5=>?_
   have t5:=t4.tick s5
   refine qb t5.gs (by have:=t5.len;lia) fun H6 s6=>?_
   have L:=zJ (km t5.len (show _≤15000 by lia))
   exact q _ _ _ _ ((t5.trans s6).more (by lia)) (((Good.nil k).app g4 (kc _) s4.k1).put t4.k1 (z7O hv) L.1 L.2) ((y4.row (j3 _ (by simp)) (by decide) _ _).cast (by decide)).weak
  ·refine ⟨_,rfl,rfl,_,rfl,?_⟩
   refine ite2 (fun c2=>?_) (fun c2=>?_)
   ·refine ⟨_,rfl,_,rfl,_,rfl,_,rfl,p,_,_,_,_,87,rfl,cv2,s1.gs,(by have:=s1.c2;lia),(by lia),(by have:=s1.k2;lia),fun c4 n4 k4 H4 s4 g4 y4=>?_⟩
    have t4:=s1.trans s4
    refine ⟨_,rfl,qb t4.gs (by have:=t4.len;lia) fun H6 s6=>?_⟩
    have L:=zJ (km t4.len (show _≤15000 by lia))
    exact q _ _ _ _ ((t4.trans s6).more (by lia)) (((Good.nil k).app g4 (kc _) s4.k1).put t4.k1 Zm L.1 L.2) ((y4.row (j3 _ (by simp)) (by decide) _ _).cast (by decide)).weak
   ·refine ⟨_,rfl,rfl,_,rfl,?_⟩
    refine ite2 (fun c3=>?_) (fun c3=>?_)
    ·refine ⟨_,rfl,_,rfl,_,rfl,by show 2≤sizeLine;decide,fun x hx=>?_⟩
     refine qN s1.gs (by have:=s1.c2;lia) hx (by show 1≤2;decide) (by show 2≤1000;decide) fun v H5 hv s5=>?_
     have t5:=s1.tick s5
     refine qb t5.gs (by have:=t5.len;lia) fun H6 s6=>?_
     have L:=zJ (km t5.len (show _≤15000 by lia))
     exact q _ _ _ _ ((t5.trans s6).more (by lia)) ((Good.nil k).put (kc _) (z7P hv) L.1 L.2) (((Ty.nil k).row z5g (by decide) _ _).cast (by decide)).weak
    ·have d1:¬i < 2:=fun z=>c1 (kf z)
     have d2:¬i=2:=fun z=>c2 (by rw [z];rfl)
     have d3:¬i=3:=fun z=>c3 (by rw [z];rfl)
     have e0:¬e≤0:=fun z=>by have:=i4 z;lia
     obtain ⟨d',rfl⟩:∃d',d=d'+1:=⟨d - 1,by lia⟩
     have eB:bD (d'+1)=2 * bD d'+200:=rfl
     have cc:CC n e (2 * bD d'+150):=⟨d',by lia,by lia,rfl⟩
     refine ⟨_,rfl,_,_,rfl,rfl,_,rfl,?_⟩
     refine ite2 (fun c4=>?_) (fun c4=>?_)
     ·refine ⟨_,rfl,_,rfl,_,rfl,_,rfl,_,rfl,p,_,_,_,_,_,rfl,cc,s1.gs,(by have:=s1.c2;lia),(by lia),(by have:=s1.k2;lia),fun c4 n4 k4 H4 s4 g4 y4=>?_⟩
      exact q _ _ _ _ ((s1.trans s4).more (by lia)) ((Good.nil k).app g4 (kc _) s4.k1) y4
     ·refine ⟨_,rfl,_,_,rfl,rfl,_,rfl,?_⟩
      refine ite2 (fun c5=>?_) (fun c5=>?_)
      ·refine ⟨_,rfl,_,rfl,_,rfl,_,rfl,_,rfl,p,_,_,_,_,_,rfl,cc,s1.gs,(by have:=s1.c2;lia),(by lia),(by have:=s1.k2;lia),fun c4 n4 k4 H4 s4 g4 y4=>?_⟩
       exact q _ _ _ _ ((s1.trans s4).more (by lia)) ((Good.nil k).app g4 (kc _) s4.k1) y4
      ·refine ⟨_,rfl,rfl,_,rfl,?_⟩
       refine ite2 (fun c6=>?_) (fun c6=>?_)
       ·refine ⟨_,rfl,_,rfl,_,rfl,_,rfl,_,rfl,p,_,_,_,_,_,rfl,cc,s1.gs,(by have:=s1.c2;lia),(by lia),(by have:=s1.k2;lia),fun c4 n4 k4 H4 s4 g4 y4=>?_⟩
        exact q _ _ _ _ ((s1.trans s4).more (by lia)) ((Good.nil k).app g4 (kc _) s4.k1) y4
       ·refine ⟨_,rfl,_,rfl,_,rfl,_,rfl,p,_,_,_,_,3,rfl,cv0,s1.gs,(by have:=s1.c2;lia),(by lia),(by have:=s1.k2;lia),fun c4 n4 k4 H4 s4 g4 y4=>?_⟩
        have t4:=s1.trans s4
        refine ⟨_,rfl,qb t4.gs (by have:=t4.len;lia) fun H6 s6=>?_⟩
        have L:=zJ (km t4.len (show _≤15000 by lia))
        exact q _ _ _ _ ((t4.trans s6).more (by lia)) (((Good.nil k).app g4 (kc _) s4.k1).put t4.k1 z4Z L.1 L.2) (Ty.rais y4 _)
theorem JT {k:Nat} {rs:List Row} (h:∃Γl:Int→Option Sta,∀Γ,Ext Γ Γl 0 k→chk Γ rs (some (0,[]))=some none):∃Γ:Int→Option Sta,(∀m,Γ m≠none→0≤m∧m < (k:Int))∧chk Γ rs (some (0,[]))=some none:=by
 obtain ⟨Γl,q⟩:=h
 refine ⟨fun m=>if 0≤m∧m < (k:Int) then Γl m else none,fun m hm=>?_,q _ fun m _ hm=>kq ⟨by lia,by lia⟩⟩
 by_cases z:0≤m∧m < (k:Int)
 ·exact z
 ·exact absurd (ko z) hm
theorem z3g:∃Γ:Int→Option Sta,(∀m,Γ m≠none→0≤m∧m < ((0:Nat):Int))∧chk Γ [⟨"load",.str "a",7⟩,⟨"return",.non,8⟩] (some (0,[]))=some none:=
 JT ((Ty.nil 0).whole (((Ty.nil 0).row z1o (by decide) (.str "a") 7).cast (by decide)) (kc _) (kc _) 8 (by decide))
theorem z2g (DD:zt K mg "_law_deed" (top 94)) (DC:zt K mg "_law_choice" (top 95)) (DR:zt K mg "_law_round" (top 96)) (DT:zt K mg "_law_tried" (top 97)) (S:jE P w K mg base) (FV:FN P w K mg base 9 "_law_value" gps (qu K (CV 3) 1 true)):
  ∀n,FN P w K mg base (10+2 * n) "_law_deed" gps (qu K (CD n) 0 false)
 | 0=>z2f DD (fun _ _ _ _ _ _=>zU5 fun _ _ _ _ _=>rfl) fun e B ⟨d,_,h,_⟩=>absurd h (Nat.not_lt_zero _)
 | n+1=>by
  have ih:=z2g DD DC DR DT S FV n
  exact z7E DD S FV (z4x DC S FV ih) (z5S DR S FV ih) (z5R DT S ih)
def z0b (K:kn):Sp:=fun vs H Q _=>∃(a t:Addr) (ns:List Int) (c:Nat) (cells:List Int) (many:Int),vs=[.ref a,.ref t,.int many]∧Scr K H a (ns.map V.int)∧ns.length≤1000∧cells.length=ns.length∧H t=some (.lst (qU c cells))∧c≤100∧1≤many∧many≤12∧
 ∀(l:Addr) (as:List Addr) (rs:List Row) (k c':Nat) (cells':List Int) H',H' l=some (.lst (as.map V.ref))→zv H' as rs→Good 0 k rs→(∃Γ:Int→Option Sta,(∀m,Γ m≠none→0≤m∧m < (k:Int))∧chk Γ rs (some (0,[]))=some none)→k≤90→1≤rs.length→rs.length≤140→l≠t→cells'.length=ns.length→H' t=some (.lst (qU c' cells'))→c'≤14000→Qp H H' t→Q (.ref l) H'
theorem sc98:zn ["_law_script","_law_town_here","_law_many","_law_rows","_law_marks","_law_k"] ["_law_script","_law_town_here","_law_many"] (ze (top 98)):=fsM
theorem cd2:CD 3 2 968:=⟨2,rfl,by decide,rfl⟩
theorem z2U (D:zt K mg "_law_code" (top 98)) (G:Glo mg) (S:jE P w K mg base) (FV:FN P w K mg base 9 "_law_value" gps (qu K (CV 3) 1 true)) (FD:FN P w K mg base 16 "_law_deed" gps (qu K (CD 3) 0 false)):FN P w K mg base 17 "_law_code" ["_law_script","_law_town_here","_law_many"] (z0b K):=by
 refine FN.o D sc98 fun f cdv A outer s H vs Q E hr h=>?_
 obtain ⟨a,t,ns,c,cells,many,rfl,hS,hns,hcl,hT,hc,hm1,hm2,q⟩:=h
 have hr1:=hr.mono (show 1≤16 by decide)
 have hr9:=hr.mono (show 9≤16 by decide)
 refine ⟨_,z8 (zI (i:=3) sc98.nd rfl (Or.inl rfl) (zO z7))
  (z8 (zI (i:=4) sc98.nd rfl (Or.inl rfl) (zO z7))
  (z8 (Z1 PassesOwn.never rfl (qA rfl G.range (z6 (zG j9 zc (zp S.draw hr1 rfl (z6 (pv 0) (z6 (pv 1) (z6 (pv 2) z7))))) z7)) (zB (i:=5) sc98.nd rfl (Or.inl rfl))
   (zd (zH (zk Q2 (zw zy rfl G.len zW (z6 (pv 3) z7)) zc (zo _))
    (zd (zj (zp FD hr rfl (z6 (pv 0) (z6 (pv 1) (z6 (pv 3) (z6 (pv 4) (z6 zc z7)))))))) zu)))
  (z8 (zj (zp FV hr9 rfl (z6 (pv 0) (z6 (pv 1) (z6 (pv 3) (z6 (pv 4) (z6 zc z7)))))))
  (z8 (zj (zA S.put2 hr1 rfl (z6 (pv 3) (z6 zf z7))))
  (z8 (zH (PW.pt (Zq (zk JN (zw zy rfl G.len zW (z6 (pv 3) z7)) zc (zo _)) (jr (zk JN (zw zy rfl G.len zW (z6 (pv 4) z7)) zc (zo _)))))
   (zd (zm (zO (z6 (zF (z6 zf (z6 zf (z6 zc z7)))) (z6 (zF (z6 zf (z6 qc (z6 zc z7)))) z7))))) zu)
  (zd (zm (pv 3)))))))),?_⟩
 refine ⟨by show 0≤sizeLine;decide,fun r hr0=>⟨by show 0≤sizeLine;decide,fun m hm0=>?_⟩⟩
 have sr:Same H (upd H r (.lst [])):=zg hr0 _
 have sm:Same (upd H r (.lst [])) (upd (upd H r (.lst [])) m (.lst [])):=zg hm0 _
 have rm:r≠m:=zh (H:=upd H r (.lst [])) zb hm0
 have tr:t≠r:=zh hT hr0
 have tm:t≠m:=zh (sr _ _ hT) hm0
 have s02:=sr.trans sm
 generalize hH2:upd (upd H r (.lst [])) m (.lst [])=H2 at *
 have hr2:H2 r=some (.lst []):=by rw [←hH2,zl rm];exact zb
 have hm2':H2 m=some (.lst []):=by rw [←hH2];exact zb
 have g:GS K H2 ⟨a,t,r,m,ns⟩ c [] 0:=⟨hS.keep fun o u e=>s02 _ _ e,hns,⟨cells,hcl,s02 _ _ hT⟩,⟨[],hr2,.nil⟩,hm2',tr,tm,rm⟩
 generalize hp:(⟨a,t,r,m,ns⟩:Pl)=p at *
 have pa:p.a=a:=by rw [←hp]
 have pt:p.t=t:=by rw [←hp]
 have pr:p.r=r:=by rw [←hp]
 have pm:p.m=m:=by rw [←hp]
 have pn:p.ns=ns:=by rw [←hp]
 subst pa pt pr pm pn
 clear hp
 refine ⟨_,rfl,_,rfl,_,rfl,jq g (by lia) (by lia) (by lia) fun j H3 j0 j1 s3=>?_⟩
 refine ⟨_,_,rfl,rfl,1+j,rfl,by lia,by lia,jw (lo:=0) (n:=(1+j).toNat) (fun i σ H4=>∃v c' new k',σ=[some (.ref p.a),some (.ref p.t),some (.int many),some (.ref p.r),some (.ref p.m),v]∧Step K H2 H4 p c [] 0 c' new k' (1+968 * i)∧Good 0 k' new∧Ty 0 false 0 k' new)
  ⟨none,_,_,_,rfl,s3,Good.nil 0,(Ty.nil 0).weak⟩ ?_ ?_⟩
 ·rintro i σ H4 hi ⟨v,c',new,k',rfl,st,gd,ty⟩
  have hin:i < 12:=by lia
  have l:=st.len
  obtain ⟨as,h3,h4⟩:=st.gs.rows
  refine ⟨_,rfl,p.r,_,rfl,.inl (SqL.of h3),_,_,rfl,rfl,_,rfl,?_⟩
  refine ite2 (fun c4=>?_) (fun c4=>?_)
  ·refine ⟨_,rfl,_,rfl,_,rfl,_,rfl,p,_,_,_,_,968,rfl,cd2,st.gs,(by have:=st.c2;lia),(by simp at l ⊢;lia),(by have:=st.k2;lia),fun c5 n5 k5 H5 s5 g5 y5=>?_⟩
   exact ⟨_,c5,new++n5,k5,rfl,(st.trans s5).more (by lia),gd.app g5 (Nat.zero_le _) s5.k1,(ty.app y5 (Nat.zero_le _) s5.k1 (by decide)).cast (by decide)⟩
  ·exact ⟨_,c',new,k',rfl,st.more (by lia),gd,ty⟩
 rintro σ H4 ⟨v4,c4,n4,k4,rfl,t4,g4,y4⟩
 have t4:=t4.more (show _≤11617 by lia)
 refine ⟨_,rfl,_,rfl,_,rfl,_,rfl,p,_,_,_,_,31,rfl,cv1,t4.gs,(by have:=t4.c2;lia),(by have:=t4.len;simp at this ⊢;lia),(by have:=t4.k2;lia),fun c5 n5 k5 H5 s5 g5 y5=>?_⟩
 have t5:=t4.trans s5
 refine ⟨_,rfl,qb t5.gs (by have:=t5.len;simp at this ⊢;lia) fun H6 s6=>?_⟩
 have t6:=t5.trans s6
 have L5:=zJ (km t5.len (show _≤15000 by simp))
 have g6:=(g4.app g5 (Nat.zero_le _) s5.k1).put (Nat.zero_le _) QD L5.1 L5.2
 have cK:n4.length+n5.length≤998→∃Γ:Int→Option Sta,(∀m,Γ m≠none→0≤m∧m < (k5:Int))∧chk Γ (n4++n5++[(⟨Str.ofString "return",.non,10+(([]++(n4++n5):List Row).length:Int) / 2⟩:Row)]) (some (0,[]))=some none:=fun hz=>JT (y4.whole y5 (Nat.zero_le _) s5.k1 _ hz)
 have hlen:(n4++n5++[(⟨Str.ofString "return",.non,10+(([]++(n4++n5):List Row).length:Int) / 2⟩:Row)]).length=n4.length+n5.length+1:=by rw [kh,kh];rfl
 generalize hn:n4++n5++[(⟨Str.ofString "return",.non,10+(([]++(n4++n5):List Row).length:Int) / 2⟩:Row)]=nn at *
 have hpos:1≤nn.length:=by rw [←hn];simp only [kh,kJ,List.length_nil,ky];lia
 obtain ⟨as,h3,h4⟩:=t6.gs.rows
 have hal:(as.map V.ref).length=nn.length:=by rw [kg,h4.len];rfl
 obtain ⟨cells',hl',hT'⟩:=t6.gs.town
 have hc6:=t6.c2
 have kp:Qp H H6 p.t:=fun b o e hb=>t6.keep b o (s02 _ _ e) hb (zh e hr0) (fun z=>by
  have:=sr _ _ e
  rw [z,hm0] at this
  cases this)
 have two:∀H7,Same H6 H7→∀x y l,H7 x=some (.tup [.str "load",.str "a",.int 7])→H7 y=some (.tup [.str "return",.non,.int 8])→H7 l=some (.lst [.ref x,.ref y])→l≠p.t→Q (.ref l) H7:=fun H7 s7 x y l hx hy hl hlt=>by
  have b1:Bare "load" (.str "a"):=z14 (by simp)
  refine q l [x,y] [⟨"load",.str "a",7⟩,⟨"return",.non,8⟩] 0 _ cells' H7 hl (.cons hx (.cons hy .nil)) ?_ z3g (by decide) (by simp) (by simp) hlt hl' (s7 _ _ hT') (by lia) fun b o e hb=>s7 _ _ (kp b o e hb)
  exact (b1.good (by decide) (by decide) 0).put (kc _) QD (by decide) (by decide)
 have fin:nn.length≤140→k5≤90→Q (.ref p.r) H6:=fun h1 h2=>q p.r as nn k5 _ cells' H6 h3 h4 g6 (cK (by lia)) h2 hpos h1 g.tr.symm hl' hT' (by lia) kp
 refine ⟨_,rfl,p.r,_,rfl,.inl (SqL.of h3),_,_,rfl,rfl,_,rfl,?_⟩
 have short:tTup (qV (tC (.str "load")) (qV (tC (.str "a")) (qV (tC (.int 7)) tNil))) [some (.ref p.a),some (.ref p.t),some (.int many),some (.ref p.r),some (.ref p.m),v4] H6 (fun x H7=>tTup (qV (tC (.str "return")) (qV (tC .non) (qV (tC (.int 8)) tNil))) [some (.ref p.a),some (.ref p.t),some (.int many),some (.ref p.r),some (.ref p.m),v4] H7 fun y H8=>[x,y].length≤sizeLine∧∀l,H8 l=none→Q (.ref l) (upd H8 l (.lst [x,y]))):=by
  refine ⟨by show 3≤sizeLine;decide,fun x hx=>⟨by show 3≤sizeLine;decide,fun y hy=>⟨by show 2≤sizeLine;decide,fun l hl=>?_⟩⟩⟩
  have sx:Same H6 (upd H6 x (.tup [.str "load",.str "a",.int 7])):=zg hx _
  have sy:=zg hy (.tup [.str "return",.non,.int 8])
  have sl:=zg hl (.lst [.ref x,.ref y])
  refine two _ (sx.trans (sy.trans sl)) x y l (sl _ _ (sy _ _ zb)) (sl _ _ zb) zb ?_
  exact (zh (sy _ _ (sx _ _ hT')) hl).symm
 refine ite2 (fun c1=>?_) (fun c1=>?_)
 ·exact iteT short
 ·have hn1:nn.length≤140:=by
   rw [hal] at c1
   have:¬((140:Int) < (nn.length:Int)):=fun z=>c1 (kf z)
   lia
  refine ⟨_,rfl,p.m,_,rfl,.inl (SqL.of t6.gs.marks),_,_,rfl,rfl,_,rfl,?_⟩
  refine ite2 (fun c2=>short) (fun c2=>?_)
  rw [Zd] at c2
  have hk:k5≤90:=by
   have:¬((90:Int) < (k5:Int)):=fun z=>c2 (kf z)
   lia
  exact ⟨_,rfl,fin hn1 hk⟩
end
set_option autoImplicit false
set_option linter.unusedVariables false
theorem ZP {p:Row→Bool}:∀(l:List Row) (i:Nat) (r:Row),l[i]?=some r→p r=true→l.countP p≤1→l.findIdx? p=some i
 | [],_,_,h,_,_=>by simp at h
 | x :: l,0,r,h,hp,_=>by
  have e:x=r:=by simpa using h
  rw [List.findIdx?_cons,e,kq hp]
 | x :: l,i+1,r,h,hp,hc=>by
  have h':l[i]?=some r:=by simpa using h
  have hm:=kz h'
  have hpos:0 < l.countP p:=List.countP_pos_iff.mpr ⟨r,hm,hp⟩
  rw [List.countP_cons] at hc
  have hx:¬p x=true:=fun e=>by rw [kq e] at hc;lia
  rw [ko hx] at hc
  rw [List.findIdx?_cons,ko hx,ZP l i r h' hp hc]
  rfl
theorem z0O {p:Row→Bool} {l:List Row} (h:l.countP p≠0):(l.findIdx? p).isSome=true:=by
 rw [List.findIdx?_isSome,List.any_eq_true]
 have:0 < l.countP p:=by lia
 obtain ⟨r,h1,h2⟩:=List.countP_pos_iff.mp this
 exact ⟨r,h1,h2⟩
theorem Good.mark {k:Nat} {rs:List Row} (g:Good 0 k rs) {r:Row} (hr:r∈rs) (hs:zR r.op=some ("mark":Str)) {m:Nat} (hm:r.arg=.int (m:Int)):lab m rs≠0:=by
 by_cases c:r.op="label"
 ·have:0 < rs.countP (J2 m):=List.countP_pos_iff.mpr ⟨r,hr,by unfold J2;rw [kf c,kf hm];rfl⟩
  unfold lab
  lia
 ·refine g.useI m ?_
  have:0 < rs.countP (ZK m):=List.countP_pos_iff.mpr ⟨r,hr,by unfold ZK;rw [kf hs,kf c,kf hm];rfl⟩
  unfold use
  lia
theorem Good.typed {k:Nat} {rs:List Row} (g:Good 0 k rs) (h:∃Γ:Int→Option Sta,(∀m,Γ m≠none→0≤m∧m < (k:Int))∧chk Γ rs (some (0,[]))=some none):∃S,z6k rs S:=by
 obtain ⟨Γ,h1,h2⟩:=h
 refine ⟨_,z55 (fun m s e=>?_) h2⟩
 obtain ⟨a,b⟩:=h1 m (by rw [e];nofun)
 obtain ⟨j,rfl⟩:=kR a
 exact z0O (g.labA j (Nat.zero_le _) (by lia))
theorem Good.code {k:Nat} {rs:List Row} (g:Good 0 k rs) (hk:k≤90) (h1:1≤rs.length) (h2:rs.length≤150):Code rs:=by
 refine ⟨fun r hr=>?_,fun i r hi=>?_,h1,h2⟩
 ·obtain ⟨s,hs,l0,l1,_,h⟩:=g.row r hr
  have hf:jc s r.arg=true:=by
   rcases h with ⟨rfl,m,hm⟩ | ⟨_,hf⟩
   ·have:=(g.labI m (g.mark hr hs hm)).2
    rw [hm]
    exact Zs (lo:=0) (hi:=99) (fun x=>by rfl) (by lia) (by lia)
   ·exact hf
  show rowV r.op r.arg (.int r.line)=true
  unfold rowV Q8
  rw [hs]
  show (true&&jc s r.arg&&ql (.int r.line) 0 9999)=true
  rw [hf]
  show ql (.int r.line) 0 9999=true
  show (decide (0≤r.line)&&decide (r.line≤9999))=true
  rw [kf l0,kf l1]
  rfl
 ·have hr:=kz hi
  obtain ⟨s,hs,l0,l1,_,h⟩:=g.row r hr
  unfold jY
  by_cases c:r.op="label"
  ·rw [kq c]
   have e:s="mark":=by
    rw [c,Zg] at hs
    exact (kr hs).symm
   rcases h with ⟨_,m,hm⟩ | ⟨hn,_⟩
   ·rw [hm]
    show decide (zZ rs (m:Int)=some i)=true
    exact kf (ZP rs i r hi (by show (decide (r.op="label")&&decide (r.arg=.int (m:Int)))=true;rw [kf c,kf hm];rfl) (g.lab1 m))
   ·exact absurd e hn
  ·rw [ko c]
   by_cases c2:zR r.op=some ("mark":Str)
   ·rw [kq c2]
    have e:s="mark":=by
     rw [c2] at hs
     exact (kr hs).symm
    rcases h with ⟨_,m,hm⟩ | ⟨hn,_⟩
    ·rw [hm]
     exact z0O (g.mark hr c2 hm)
    ·exact absurd e hn
   ·rw [ko c2]
section
def z6p (K:kn):Sp:=fun vs H Q _=>∃(a:Addr) (ns:List Int),vs=[.ref a]∧Scr K H a (ns.map V.int)∧ns.length≤1000∧∀t H',Same H H'→H t=none→H' t=some (.lst (qU 0 ns))→Q (.ref t) H'
theorem sc84:zn ["_law_script"] ["_law_script"] (ze (top 84)):=fsM
theorem z7k (D:zt K mg "_law_town" (top 84)) (G:Glo mg):FN P w K mg base 1 "_law_town" ["_law_script"] (z6p K):=by
 refine FN.o D sc84 fun f cdv A outer s H vs Q E hr h=>?_
 obtain ⟨a,ns,rfl,hS,hn,q⟩:=h
 refine ⟨_,zd (zm (zG z42 (zO (z6 zc z7)) (z0m z0W rfl G.list z0Z (z6 (pv 0) z7)))),?_⟩
 refine ⟨by show 1≤sizeLine;decide,fun p hp=>?_⟩
 have sp:=zg hp (.lst [.int 0])
 refine ⟨_,rfl,a,ns.map V.int,rfl,.inl (hS.keep fun o u e=>sp _ _ e).sq,fun l hl=>?_⟩
 have sl:=zg hl (.lst (ns.map V.int))
 have npl:p≠l:=zh (H:=upd H p (.lst [.int 0])) zb hl
 refine ⟨p,l,[.int 0],ns.map V.int,rfl,rfl,sl _ _ zb,zb,?_,fun t ht=>?_⟩
 ·rw [kg,sizeLine_eq]
  show 1+ns.length≤_
  lia
 ·have st:=zg ht (.lst ([.int 0]++ns.map V.int))
  refine q t _ ((sp.trans sl).trans st) ?_ zb
  cases e:H t with
  | none=>rfl
  | some o=>rw [(sp.trans sl) _ _ e] at ht;cases ht
theorem ZT {i:Int} (h:big i=false):Za (.int i):=by
 have h1:¬1000000000000000000 < i.natAbs:=of_decide_eq_false h
 refine ⟨rfl,?_,?_⟩
 ·show (PyData.int i).showable=true
  simp only [PyData.showable]
  have:i.natAbs.log2 < 1920:=by
   by_cases z:i.natAbs=0
   ·rw [z];decide
   ·have h2:=(Nat.log2_lt z (k:=64)).mpr (by lia)
    lia
  exact kf this
 ·have e:=int_text_length_le10 (a:=i) (k:=19) (by decide) (by lia)
  show ((PyData.int i).shown).length≤60
  simp only [PyData.shown]
  rw [PySem.ofString_length]
  lia
theorem J9:∀z∈(["Oops","Zero","Unset","Type","Big","on","value","fault"]:List Str),(jJ (.str z)).showable=true∧(jJ (.str z)).shown.length≤60:=by trivial
theorem z4X {z:Str} (h:z∈(["Oops","Zero","Unset","Type","Big","on","value","fault"]:List Str)):Za (.str z):=⟨rfl,(J9 z h).1,(J9 z h).2⟩
theorem z3b {z:Str} (h:z∈z4e):Za (.str z):=by
 refine z4X ?_
 unfold z4e at h
 simp only [kw,kl,or_false] at h ⊢
 rcases h with h | h | h | h | h <;> simp [h]
theorem z43 {v:V} (h:okV v=true):Za v:=by
 cases v with
 | non=>exact ⟨rfl,by trivial,by trivial⟩
 | bl b=>cases b <;> exact ⟨rfl,by trivial,by trivial⟩
 | int i=>exact ZT (by simpa [okV] using h)
 | str z=>exact z3b (ku h)
 | _=>cases h
def z1c (K:kn):Sp:=fun vs H Q _=>∃a d,vs=[.ref a]∧RdV K H (.ref a) d∧z52 d∧Q (.str d.shown) H
theorem z9g:zn ["_law_thing"] ["_law_thing"] (ze (top 100)):=fsM
theorem z4u (D:zt K mg "_law_shown" (top 100)):FN P w K mg base 2 "_law_shown" ["_law_thing"] (z1c K):=by
 refine FN.o D z9g fun f cdv A outer s H vs Q E hr h=>?_
 obtain ⟨a,d,rfl,hR,hk,q⟩:=h
 exact ⟨_,zd (zm (z5k (z5j hr (pv 0)))),_,rfl,a,d,rfl,hR,hk,q⟩
end
set_option maxHeartbeats 4000000
section
noncomputable def Z8 (rs:List Row):Bool:=rs.all fun r=>decide (r.op=("push":Str))
def z8b (K:kn):Sp:=fun vs H Q _=>∃l as rs,vs=[.ref l]∧H l=some (.lst (as.map V.ref))∧zv H as rs∧rs.length≤1000∧∀H',Same H H'→Q (.bl (Z8 rs)) H'
theorem sc68:zn ["rows"] ["rows"] (ze (top 68)):=fsM
theorem z8T (D:zt K mg "are_pushes" (top 68)) (G:Glo mg):FN P w K mg base 1 "are_pushes" ["rows"] (z8b K):=by
 refine FN.o D sc68 fun f cdv A outer s H vs Q E hr h=>?_
 obtain ⟨l,as,rs,rfl,hl,hR,hn,q⟩:=h
 refine ⟨_,zd (zm (zw (ZS rfl) rfl G.all z2p (z6 (z74 rfl ⟨by trivial,by trivial,rfl,by trivial,rfl⟩ (ZZ (pv 0))
  (fun _ _ _ _=>zU qe (zx (r:=rIxT K) zS (pv 0) zc (fun _ _=>rfl)) zf (zo _))) z7))),?_⟩
 have hll:as.length=rs.length:=hR.len
 have hml:(as.map V.ref).length=rs.length:=by rw [kg];exact hll
 refine ⟨_,rfl,l,rfl,⟨_,SqL.of hl⟩,fun p hp=>z4K (K:=K) (a:=l) (xs:=as.map V.ref) (fun i ys H2=>ys=(rs.take i).map (fun r:Row=>V.bl (decide (r.op=("push":Str))))∧Same H H2∧H2 p=some (.lst ys))
  ⟨rfl,zg hp _,zb⟩ (fun i ys H2 _ ⟨_,s2,_⟩=>s2.seq (SqL.of hl)) ?_ ?_⟩
 ·rintro i x ys H2 hi ⟨rfl,s2,hp2⟩
  obtain ⟨a,r,rfl,hr1,ha⟩:=(hR.same s2).get hi
  have hil:i < rs.length:=(kd.mp hr1).1
  refine ⟨_,rfl,a,_,_,_,rfl,rfl,SqT.of ha,zi (j:=0) rfl,rfl,hp2,?_,_,by lia,rfl,by lia,?_,?_,zb⟩
  ·rw [kg,List.length_take]
   exact qh (by lia)
  ·rw [jL hr1,kE,qP]
   rfl
  ·exact My.Same.upd s2 hp _
 ·rintro ys H8 ⟨rfl,s8,hp8⟩
  rw [hml,List.take_length] at hp8
  refine ⟨p,rs.map (fun r:Row=>decide (r.op=("push":Str))),rfl,SqL.of (by rw [List.map_map];exact hp8),?_⟩
  have e:(rs.map (fun r:Row=>decide (r.op=("push":Str)))).all id=Z8 rs:=by
   unfold Z8
   rw [List.all_map]
   rfl
  rw [e]
  exact q H8 s8
end
theorem z3J {n d i:Nat} (h:i≤n):HT.sIx n d (some (i:Int))=i:=by
 rw [HT.sIx_nat]
 lia
theorem z7H {as:List Addr} {i j:Nat} (h1:i≤j) (h2:j≤as.length):cutV (as.map V.ref) (some (i:Int)) (some (j:Int))=((as.drop i).take (j - i)).map V.ref:=by
 unfold cutV
 rw [z3J (by rw [kg];lia),z3J (by rw [kg];lia),←List.map_drop,←List.map_take]
theorem zv.drop {H:Hp}:∀{as:List Addr} {rs:List Row} (n:Nat),zv H as rs→zv H (as.drop n) (rs.drop n)
 | _,_,0,h=>h
 | _,_,_+1,.nil=>.nil
 | _,_,n+1,.cons _ t=>zv.drop n t
theorem zv.take {H:Hp}:∀{as:List Addr} {rs:List Row} (n:Nat),zv H as rs→zv H (as.take n) (rs.take n)
 | _,_,0,_=>.nil
 | _,_,_+1,.nil=>.nil
 | _,_,n+1,.cons h t=>.cons h (zv.take n t)
theorem zv.cut {H:Hp} {as:List Addr} {rs:List Row} (h:zv H as rs) (i k:Nat):zv H ((as.drop i).take k) ((rs.drop i).take k):=zv.take k (zv.drop i h)
section
noncomputable def zX (rs:List Row) (at_ many:Nat):Bool:=decide (many≤at_)&&Z8 ((rs.drop (at_ - many)).take many)
def Zp:Sp:=fun vs H Q _=>∃(l:Addr) (as:List Addr) (rs:List Row) (at_ many:Nat),vs=[.ref l,.int (at_:Nat),.int (many:Nat)]∧H l=some (.lst (as.map V.ref))∧zv H as rs∧rs.length≤1000∧at_≤rs.length∧∀H',Same H H'→Q (.bl (zX rs at_ many)) H'
theorem sc69:zn ["rows","at","many"] ["rows","at","many"] (ze (top 69)):=fsM
theorem z62 (D:zt K mg "pushes_ahead" (top 69)) (F1:FN P w K mg base 1 "are_pushes" ["rows"] (z8b K)):FN P w K mg base 2 "pushes_ahead" ["rows","at","many"] Zp:=by
 refine FN.o D sc69 fun f cdv A outer s H vs Q E hr h=>?_
 obtain ⟨l,as,rs,at_,many,rfl,hl,hR,hn,ha,q⟩:=h
 refine ⟨_,zd (zm (jh (zU z5s (pv 1) (pv 2) (zo _)) (j8 (zp F1 hr rfl (z6 (ZE JC (pv 0) (Zr (zG qo (pv 1) (pv 2))) (Zr (pv 1))) z7))))),?_⟩
 have hll:as.length=rs.length:=hR.len
 unfold zX at q
 refine ⟨_,rfl,_,rfl,_,_,rfl,rfl,decide (many≤at_),?_,?_⟩
 ·show V.bl (decide ((many:Int)≤(at_:Int)))=V.bl (decide (many≤at_))
  by_cases z:many≤at_
  ·rw [kf z,kf (by lia)]
  ·rw [ke z,ke (by lia)]
 by_cases z:many≤at_
 ·rw [kf z,Bool.true_and] at q
  rw [kf z]
  refine iteT ⟨_,rfl,_,rfl,_,rfl,_,_,rfl,rfl,_,rfl,_,rfl,_,rfl,l,_,rfl,SqL.of hl,fun p hp=>?_⟩
  have e:cutV (as.map V.ref) (some ((at_:Int) - (many:Int))) (some (at_:Int))=((as.drop (at_ - many)).take many).map V.ref:=by
   have e1:(at_:Int) - (many:Int)=((at_ - many:Nat):Int):=by lia
   rw [e1,z7H (by lia) (by lia),show at_ - (at_ - many)=many by lia]
  rw [e] at *
  have sp:=zg hp (.lst (((as.drop (at_ - many)).take many).map V.ref))
  refine ⟨p,_,_,rfl,zb,(zv.cut hR (at_ - many) many).same sp,?_,fun H' s'=>q H' (sp.trans s')⟩
  rw [List.length_take,List.length_drop]
  lia
 ·rw [ke z,Bool.false_and] at q
  rw [ke z]
  exact iteF (q H (Same.refl _))
end
def Jf (H:Hp) (Q:VK) (res:Option (Nat × List Row)):Prop:=match res with
 | none=>∀H',Same H H'→Q .non H'
 | some (n,rows)=>∀t l as H',Same H H'→H' t=some (.tup [.int (n:Nat),.ref l])→H' l=some (.lst (as.map V.ref))→zv H' as rows→Q (.ref t) H'
theorem Jf.mono {H H':Hp} {Q:VK} {res:Option (Nat × List Row)} (h:Jf H Q res) (s:Same H H'):Jf H' Q res:=by
 cases res with
 | none=>exact fun H2 s2=>h H2 (s.trans s2)
 | some p=>exact fun t l as H2 s2=>h t l as H2 (s.trans s2)
noncomputable def Qm (many:Nat) (r1 r2:V) (line:Int):Option (Nat × List Row):=if r1=.non then (if zP r2=true then some (many,[⟨"push",r2,line⟩]) else none) else none
section
def z3x:Sp:=fun vs H Q _=>∃(many:Nat) (ma:Addr) (r1 r2:V) (line:Int),vs=[.int (many:Nat),.ref ma,.int line]∧H ma=some (.tup [r1,r2])∧Scal r2∧Jf H Q (Qm many r1 r2 line)
theorem sc71:zn ["many","made","line","kind","value"] ["many","made","line"] (ze (top 71)):=fsM
theorem z7z (D:zt K mg "pushed_instead" (top 71)) (F1:FN P w K mg base 4 "is_pushed" ["thing"] (sp1 zP)):FN P w K mg base 5 "pushed_instead" ["many","made","line"] z3x:=by
 refine FN.o D sc71 fun f cdv A outer s H vs Q E hr h=>?_
 obtain ⟨many,ma,r1,r2,line,rfl,hma,hs,q⟩:=h
 refine ⟨_,z8 (jW (pv 1) (jX rfl (zD (zB (i:=3) sc71.nd rfl (Or.inl rfl)) (zD (zB (i:=4) sc71.nd rfl (Or.inl rfl)) qY))))
  (z8 (zH (PW.pt (js (zk QV (pv 3) qc (zo _)) (qX (qz (zp F1 hr rfl (z6 (pv 4) z7))))))
   (zd (zm (zF (z6 (pv 0) (z6 (zO (z6 (zF (z6 zf (z6 (pv 4) (z6 (pv 2) z7)))) z7)) z7))))) zu)
  (zd (zm qc))),?_⟩
 refine ⟨_,rfl,ma,_,rfl,SqT.of hma,rfl,_,_,rfl,_,_,rfl,rfl,?_⟩
 unfold Qm at q
 refine ⟨_,rfl,rfl,decide (r1=.non),rfl,?_⟩
 by_cases z:r1=.non
 ·rw [kq z] at q
  rw [kf z]
  refine iteT ⟨_,rfl,r2,rfl,hs,zP r2,rfl,?_⟩
  cases hp:zP r2 with
  | true=>
   rw [hp,kq rfl] at q
   refine iteT ⟨_,rfl,_,rfl,_,rfl,by show 3≤sizeLine;decide,fun b hb=>⟨by show 1≤sizeLine;decide,fun l hl=>⟨by show 2≤sizeLine;decide,fun t ht=>?_⟩⟩⟩
   have s1:=zg hb (.tup [.str "push",r2,.int line])
   have s2:=zg hl (.lst [.ref b])
   have s3:=zg ht (.tup [.int (many:Nat),.ref l])
   exact q t l [b] _ ((s1.trans s2).trans s3) zb (s3 _ _ zb) (.cons ((s2.trans s3) _ _ zb) .nil)
  | false=>
   rw [hp,ko ka] at q
   exact iteF (q H (Same.refl _))
 ·rw [ko z] at q
  rw [ke z]
  exact iteF (iteF (q H (Same.refl _)))
end
noncomputable def twoM (rs:List Row) (at_:Nat):Option (Option (Nat × List Row)):=if zX rs at_ 2=true then (match rs[at_]?,rs[at_ - 2]?,rs[at_ - 1]? with
 | some r,some x,some y=>if jH x.arg=true∧jH y.arg=true then (match jz r.op x.arg y.arg with
  | some (r1,r2)=>if jH r2=true then some (Qm 3 r1 r2 r.line) else none
  | none=>none) else none
 | _,_,_=>none) else some none
section
def qW (g:List Row→Nat→Option (Option (Nat × List Row))):Sp:=fun vs H Q _=>∃(l:Addr) (as:List Addr) (rs:List Row) (at_:Nat) (res:Option (Nat × List Row)),vs=[.ref l,.int (at_:Nat)]∧H l=some (.lst (as.map V.ref))∧zv H as rs∧rs.length≤1000∧at_ < rs.length∧g rs at_=some res∧Jf H Q res
theorem qQ {g:List Row→Nat→Option (Option (Nat × List Row))} (vs:List V) (H:Hp) (Q:VK) (E:XK) (h:qW g vs H Q E):vs.length=2:=by
 obtain ⟨l,as,rs,at_,res,rfl,_⟩:=h
 rfl
theorem sc73:zn ["rows","at","op","line"] ["rows","at"] (ze (top 73)):=fsM
theorem z2W (D:zt K mg "fold_two" (top 73)) (FA:FN P w K mg base 2 "pushes_ahead" ["rows","at","many"] Zp) (FM:FN P w K mg base 2 "made_of_two" ["op","first","second"] z3u) (FI:FN P w K mg base 5 "pushed_instead" ["many","made","line"] z3x):FN P w K mg base 6 "fold_two" ["rows","at"] (qW twoM):=by
 refine FN.of D sc73 (fun _ _ _ _ _ _=>zU2 fun _ _=>rfl) qQ (fun f cdv A outer s H vs Q E hr h=>?_)
 obtain ⟨l,as,rs,at_,res,rfl,hl,hR,hn,ha,hg,q⟩:=h
 have hr2:=hr.mono (show 2≤5 by decide)
 refine ⟨_,z8 (zH (jt (qz (zp FA hr2 rfl (z6 (pv 0) (z6 (pv 1) (z6 zc z7)))))) (zd (zm qc)) zu)
  (z8 (Qc (i:=2) (j:=3) rfl sc73.nd rfl rfl (by decide) rfl rfl (z6 (zx zS (zx zr (pv 0) (pv 1) (fun _ _=>rfl)) zc (fun _ _=>rfl)) (z6 (zx zS (zx zr (pv 0) (pv 1) (fun _ _=>rfl)) zc (fun _ _=>rfl)) z7)) rfl)
  (zd (zm (zp FI hr rfl (z6 zc (z6 (zp FM hr2 rfl (z6 (pv 2) (z6 (zx zS (zx zr (pv 0) (zG qo (pv 1) zc) (fun _ _=>rfl)) zc (fun _ _=>rfl)) (z6 (zx zS (zx zr (pv 0) (zG qo (pv 1) zc) (fun _ _=>rfl)) zc (fun _ _=>rfl)) z7)))) (z6 (pv 3) z7))))))),?_⟩
 refine ⟨_,rfl,_,rfl,l,as,rs,at_,2,rfl,hl,hR,hn,by lia,fun H1 s1=>⟨zX rs at_ 2,rfl,?_⟩⟩
 unfold twoM at hg
 cases hh:zX rs at_ 2 with
 | false=>
  rw [hh,ko ka] at hg
  cases hg
  exact iteT (q H1 s1)
 | true=>
  rw [hh,kq rfl] at hg
  have h2:2≤at_:=by
   unfold zX at hh
   rw [kX,kY] at hh
   exact hh.1
  have q1:=q.mono s1
  have hl1:=s1 _ _ hl
  have hR1:=hR.same s1
  cases e0:rs[at_]? with
  | none=>rw [e0] at hg;cases hg
  | some r=>
   cases e1:rs[at_ - 2]? with
   | none=>rw [e0,e1] at hg;cases hg
   | some x=>
    cases e2:rs[at_ - 1]? with
    | none=>rw [e0,e1,e2] at hg;cases hg
    | some y=>
     rw [e0,e1,e2] at hg
     dsimp only at hg
     by_cases hz:jH x.arg=true∧jH y.arg=true
     case neg=>rw [ko hz] at hg;cases hg
     rw [kq hz] at hg
     cases hm:jz r.op x.arg y.arg with
     | none=>rw [hm] at hg;cases hg
     | some rr=>
      obtain ⟨r1,r2⟩:=rr
      rw [hm] at hg
      dsimp only at hg
      by_cases hs:jH r2=true
      case neg=>rw [ko hs] at hg;cases hg
      rw [kq hs] at hg
      cases hg
      obtain ⟨a0,f0,g0⟩:=hR1.get' e0
      obtain ⟨a1,f1,g1⟩:=hR1.get' e1
      obtain ⟨a2,f2,g2⟩:=hR1.get' e2
      refine iteF ?_
      refine ⟨_,rfl,_,rfl,l,_,_,_,rfl,rfl,SqL.of hl1,zi f0,a0,_,_,_,rfl,rfl,SqT.of g0,zi (j:=0) rfl,_,rfl,_,rfl,l,_,_,_,rfl,rfl,SqL.of hl1,zi f0,a0,_,_,_,rfl,rfl,SqT.of g0,zi (j:=2) rfl,_,_,rfl,?_⟩
      have c2:(at_:Int) - 2=((at_ - 2:Nat):Int):=by lia
      have c1:(at_:Int) - 1=((at_ - 1:Nat):Int):=by lia
      refine ⟨_,rfl,_,rfl,_,rfl,_,_,rfl,rfl,l,_,_,_,rfl,rfl,SqL.of hl1,(by rw [c2];exact zi f1),a1,_,_,_,rfl,rfl,SqT.of g1,zi (j:=1) rfl,_,rfl,_,rfl,_,_,rfl,rfl,l,_,_,_,rfl,rfl,SqL.of hl1,(by rw [c1];exact zi f2),a2,_,_,_,rfl,rfl,SqT.of g2,zi (j:=1) rfl,?_⟩
      refine ⟨r.op,x.arg,y.arg,r1,r2,rfl,jp hz.1,jp hz.2,hm,fun t H2 s2 ht=>⟨_,rfl,3,t,r1,r2,r.line,rfl,ht,jp hs,q1.mono s2⟩⟩
end
section
end
section
end
end My
namespace L2
open PySem PySem.Spec PyProof.Rows
section
variable {X:Cx}
def z6S (tab:List (Str × V)) (ty:TE):TE:=fun σ H Q=>ty σ H fun y H1=>∃x,y=.str x∧Q (.bl (!(tab.lookup x).isSome)) H1
theorem z3X {nm:Str} {i:Expr} {p:Pos} {d:Addr} {tab:List (Str × V)} {ty:TE} (T:KTab X.w.params X.K d tab) (hg:Gl X nm) (hm:X.mg nm=some (.ref d)) (hi:PE X i ty) (hd:autoParam ((nm == ("__debug__":Str))=false) aR._auto_2):
  PC X .NotIn i (.Name nm p) (z6S tab ty):=by
 intro pins s σ H Q I h
 refine thn (hi pins s σ H _ I h) fun iv s1 ⟨y,H1,I1,ry,x,ex,q⟩=>Q4 I1 hg hm ?_ hd
 subst ex
 obtain ⟨t,rfl⟩:=ry
 obtain ⟨f,mo,lo,hf⟩:=Qz (prog:=X.prog) (w:=X.w) rfl T I1.kIn
 refine wpAny_notIn_of (strKind_is X.prog X.w x t) lo mo ⟨.bl _,H1,I1.tok _,rfl,?_⟩
 rw [←RelO.isSome_eq (hf x)]
 exact q
end
end L2
namespace My
open PySem PySem.Spec PyProof.Rows L2
variable {P:Program} {w:World} {K:kn} {mg:Str→Option Value} {base:Heap}
noncomputable def tagT:List (Str × Nat):=[("drop",1),("neg",2),("not",2),("copy",3),("swap",4),("add",5),("sub",5),("mul",5),("div",5),("rest",5),("less",5),("same",5),("iftrue",6),("iffalse",6),("ortrue",7),("orfalse",7)]
section
end
theorem zv.app {H:Hp}:∀{as bs:List Addr} {rs ss:List Row},zv H as rs→zv H bs ss→zv H (as++bs) (rs++ss)
 | _,_,_,_,.nil,h=>h
 | _,_,_,_,.cons a t,h=>.cons a (zv.app t h)
theorem z65 {as:List Addr} {n:Nat} (h1:1≤n) (h2:n≤as.length):cutV (as.map V.ref) none (some (-(n:Int)))=(as.take (as.length - n)).map V.ref:=by
 unfold cutV HT.sIx
 dsimp only
 rw [kq (by lia),List.drop_zero,kg]
 have e:(-(n:Int)+(as.length:Int)).toNat - 0=as.length - n:=by lia
 rw [e,←List.map_take]
section
end
theorem ZM {i:Nat} {x:V} {σ:L2.St} {H:Hp} {Q:L2.St→Hp→Prop} (h:Q (σ.set i (some x)) H):z1w i x σ H Q:=h
section
end
set_option maxHeartbeats 8000000
theorem z6A:∀op∈(["iftrue","iffalse"]:List Str),Uses op:=by
 intro op h
 rcases kw.mp h with z | z
 ·rw [z];exact z7W
 ·rw [kj.mp z];exact z06
theorem z6y:∀op∈(["ortrue","orfalse"]:List Str),Uses op:=by
 intro op h
 rcases kw.mp h with z | z
 ·rw [z];exact z7U
 ·rw [kj.mp z];exact z7V
theorem JG {v:V} {a b:Str} (h:v∈([.str a,.str b]:List V)):∃op,v=.str op∧op∈[a,b]:=by
 rcases kw.mp h with z | z
 ·exact ⟨a,z,by simp⟩
 ·exact ⟨b,kj.mp z,by simp⟩
noncomputable def hops (k:Nat) (o1 o2 o3 o4:Str) (x:V) (l:Nat→Int):List Row:=
 [⟨"load",.str "b",l 0⟩]++[⟨o1,.int ((k+4:Nat):Int),l 1⟩]++[⟨"label",.int ((k+4:Nat):Int),l 2⟩]++[⟨"load",.str "a",l 3⟩]++[⟨o2,.int (k:Int),l 4⟩]++[⟨"load",.str "b",l 5⟩]++[⟨"label",.int (k:Int),l 6⟩]++[⟨o3,.int ((k+1:Nat):Int),l 7⟩]++[⟨"push",x,l 8⟩]++[⟨"label",.int ((k+1:Nat):Int),l 9⟩]++[⟨o4,.int ((k+2:Nat):Int),l 10⟩]++[⟨"push",.int 5,l 11⟩]++[⟨"tell",.non,l 12⟩]++[⟨"jump",.int ((k+2:Nat):Int),l 13⟩]++[⟨"label",.int ((k+2:Nat):Int),l 14⟩]++[⟨"jump",.int ((k+3:Nat):Int),l 15⟩]++[⟨"push",.int 6,l 16⟩]++[⟨"tell",.non,l 17⟩]++[⟨"label",.int ((k+3:Nat):Int),l 18⟩]
theorem Ty.hops {k:Nat} {o1 o2 o3 o4:Str} (h1:o1∈(["iftrue","iffalse"]:List Str)) (h2:o2∈(["ortrue","orfalse"]:List Str)) (h3:o3∈(["ortrue","orfalse"]:List Str)) (h4:o4∈(["iftrue","iffalse"]:List Str)) (x:V) (l:Nat→Int):
  Ty 0 true k (k+5) (My.hops k o1 o2 o3 o4 x l):=by
 have ld:=show ("load":Str)≠"label" by trivial
 have pu:=show ("push":Str)≠"label" by trivial
 have te:=show ("tell":Str)≠"label" by trivial
 have ju:=show ("jump":Str)≠"label" by trivial
 unfold My.hops
 refine ⟨fun d gs hg=>?_,fun Γ hΓ=>?_⟩
 ·have hl:=hg.len
  simp only [kh,ky] at hl
  have hz:gs.length≤1000:=by lia
  refine ⟨fun m=>if m=(k:Int)∨m=((k+1:Nat):Int) then some (d+1,gs) else some (d,gs),some (d+0,gs),.inl rfl,fun Γ he hE=>?_⟩
  have e0:Γ (k:Int)=some (d+1,gs):=(he k (kc _) (by lia)).trans (kq (.inl rfl))
  have e1:Γ ((k+1:Nat):Int)=some (d+1,gs):=(he (k+1) (by lia) (by lia)).trans (kq (.inr rfl))
  have e2:Γ ((k+2:Nat):Int)=some (d,gs):=(he (k+2) (by lia) (by lia)).trans (ko (by lia))
  have e3:Γ ((k+3:Nat):Int)=some (d,gs):=(he (k+3) (by lia) (by lia)).trans (ko (by lia))
  have e4:Γ ((k+4:Nat):Int)=some (d,gs):=(he (k+4) (by lia) (by lia)).trans (ko (by lia))
  have p0:=hg.pos
  have p1:0≤d+1:=by lia
  have t1:∀g,gs.getLast?=some g→g.2≤d+1:=fun g e=>by have:=hg.top g e;lia
  have dz:d - 0+1=d+1:=by lia
  have dm:d+1 - 1+0=d:=by lia
  have L:∀(v:V) (n:Int),chk Γ [⟨"load",v,n⟩] (some (d,gs))=some (some (d+1,gs)):=fun v n=>by
   rw [z1o.chk v n p0 (fun g e=>by have:=hg.top g e;lia) hz hE,dz]
  have U:∀(v:V) (n:Int),chk Γ [⟨"push",v,n⟩] (some (d,gs))=some (some (d+1,gs)):=fun v n=>by
   rw [jf.chk v n p0 (fun g e=>by have:=hg.top g e;lia) hz hE,dz]
  have T:∀(n:Int),chk Γ [⟨"tell",.non,n⟩] (some (d+1,gs))=some (some (d,gs)):=fun n=>by
   rw [(j3 "tell" (by simp)).chk .non n (by lia) (fun g e=>by have:=hg.top g e;lia) hz hE,dm]
  simp only [zq,L,U,T,kb,z2l h1 p0 hg.top hz e4,qm p0 hg.top hz e4 (.inr rfl),z4Q h2 p0 hg.top hz e0,qm p1 t1 hz e0 (.inr rfl),z4Q h3 p0 hg.top hz e1,qm p1 t1 hz e1 (.inr rfl),z2l h4 p0 hg.top hz e2,Zj p0 hg.top hz e2,qm p0 hg.top hz e2 (.inl rfl),Zj p0 hg.top hz e3]
  rw [zC pu,kb,zC te,kb,qm p0 hg.top hz e3 (.inl rfl),Int.add_zero]
 ·have e0:Γ (k:Int)=none:=hΓ k (kc _) (by lia)
  have e1:Γ ((k+1:Nat):Int)=none:=hΓ (k+1) (by lia) (by lia)
  have e2:Γ ((k+2:Nat):Int)=none:=hΓ (k+2) (by lia) (by lia)
  have e3:Γ ((k+3:Nat):Int)=none:=hΓ (k+3) (by lia) (by lia)
  have e4:Γ ((k+4:Nat):Int)=none:=hΓ (k+4) (by lia) (by lia)
  have L:∀(v:V) (n:Int),chk Γ [⟨"load",v,n⟩] none=some none:=fun v n=>zC ld
  have U:∀(v:V) (n:Int),chk Γ [⟨"push",v,n⟩] none=some none:=fun v n=>zC pu
  have T:∀(v:V) (n:Int),chk Γ [⟨"tell",v,n⟩] none=some none:=fun v n=>zC te
  have J:∀(v:V) (n:Int),chk Γ [⟨"jump",v,n⟩] none=some none:=fun v n=>zC ju
  have O1:∀(v:V) (n:Int),chk Γ [⟨o1,v,n⟩] none=some none:=fun v n=>zC (z5r o1 h1).2.1
  have O2:∀(v:V) (n:Int),chk Γ [⟨o2,v,n⟩] none=some none:=fun v n=>zC (z5q o2 h2).2.1
  have O3:∀(v:V) (n:Int),chk Γ [⟨o3,v,n⟩] none=some none:=fun v n=>zC (z5q o3 h3).2.1
  have O4:∀(v:V) (n:Int),chk Γ [⟨o4,v,n⟩] none=some none:=fun v n=>zC (z5r o4 h4).2.1
  simp only [zq,L,U,T,J,O1,O2,O3,O4,kb,zK e0,zK e1,zK e2,zK e3,zK e4]
theorem Good.hops {k:Nat} {o1 o2 o3 o4:Str} (h1:o1∈(["iftrue","iffalse"]:List Str)) (h2:o2∈(["ortrue","orfalse"]:List Str)) (h3:o3∈(["ortrue","orfalse"]:List Str)) (h4:o4∈(["iftrue","iffalse"]:List Str)) {x:V} (hx:Bare "push" x) {l:Nat→Int} (hl:∀i,0≤l i∧l i≤9999):
  Good k (k+5) (My.hops k o1 o2 o3 o4 x l):=by
 have u1:=z6A o1 h1
 have u2:=z6y o2 h2
 have u3:=z6y o3 h3
 have u4:=z6A o4 h4
 have b5:Bare "push" (.int 5):=Ja (by trivial) (by trivial)
 have b6:Bare "push" (.int 6):=Ja (by trivial) (by trivial)
 have ba:Bare "load" (.str "a"):=z14 (by simp)
 have bb:Bare "load" (.str "b"):=z14 (by simp)
 have nl:∀m,lab m (My.hops k o1 o2 o3 o4 x l)=ind m (k+4)+ind m k+ind m (k+1)+ind m (k+2)+ind m (k+3):=fun m=>by
  unfold My.hops
  simp only [zN,qf,u1.noLab,u2.noLab,u3.noLab,u4.noLab,qg.noLab,hx.noLab,b5.noLab,b6.noLab,ba.noLab,bb.noLab,Zm.noLab]
  lia
 have nu:∀m,use m (My.hops k o1 o2 o3 o4 x l)=ind m (k+4)+ind m k+ind m (k+1)+ind m (k+2)+ind m (k+2)+ind m (k+3):=fun m=>by
  unfold My.hops
  simp only [jm,Zn,u1.use,u2.use,u3.use,u4.use,qg.use,hx.noUse,b5.noUse,b6.noUse,ba.noUse,bb.noUse,Zm.noUse]
  lia
 have L:=fun i=>(hl i).1
 have M:=fun i=>(hl i).2
 refine ⟨?_,fun m=>?_,fun m h=>?_,fun m h=>?_,fun m ha hb=>?_⟩
 ·unfold My.hops
  have A:∀{r:Row},RowG r→AllG [r]:=fun h=>AllG.one h
  exact ((((((((((((((((((A (bb.rowG (L 0) (M 0))).app (A (u1.rowG (L 1) (M 1)))).app (A (qw (L 2) (M 2)))).app (A (ba.rowG (L 3) (M 3)))).app (A (u2.rowG (L 4) (M 4)))).app (A (bb.rowG (L 5) (M 5)))).app (A (qw (L 6) (M 6)))).app (A (u3.rowG (L 7) (M 7)))).app (A (hx.rowG (L 8) (M 8)))).app (A (qw (L 9) (M 9)))).app (A (u4.rowG (L 10) (M 10)))).app (A (b5.rowG (L 11) (M 11)))).app (A (Zm.rowG (L 12) (M 12)))).app (A (qg.rowG (L 13) (M 13)))).app (A (qw (L 14) (M 14)))).app (A (qg.rowG (L 15) (M 15)))).app (A (b6.rowG (L 16) (M 16)))).app (A (Zm.rowG (L 17) (M 17)))).app (A (qw (L 18) (M 18)))
 ·rw [nl]
  have:=zL m k;have:=zL m (k+1);have:=zL m (k+2);have:=zL m (k+3);have:=zL m (k+4)
  lia
 ·rw [nl] at h
  have:=zL m k;have:=zL m (k+1);have:=zL m (k+2);have:=zL m (k+3);have:=zL m (k+4)
  lia
 ·rw [nu] at h
  rw [nl]
  lia
 ·rw [nl]
  have:=zL m k;have:=zL m (k+1);have:=zL m (k+2);have:=zL m (k+3);have:=zL m (k+4)
  lia
theorem J8 {n:Nat} {g:TG} {tc:TT} {te:TE} {R:Hp→Prop} {H:Hp} {l:Addr} {σ0:L2.St} (Pv:Nat→List V→L2.St→Hp→Prop) (h0:Pv 0 [] σ0 (upd H l (.lst [])))
  (hs:∀(i:Nat) ys σ H,i < n→Pv i ys σ H→g (.int (i:Int)) σ H fun σ2 H4=>tc σ2 H4 fun b H5=>if b=true then te σ2 H5 fun v H6=>H6 l=some (.lst ys)∧ys.length < sizeLine∧∃m',m' < n - i∧m'=n - (i+1)∧i+1≤n∧Pv (i+1) (ys++[v]) σ2 (upd H6 l (.lst (ys++[v])))
   else ∃m',m' < n - i∧m'=n - (i+1)∧i+1≤n∧Pv (i+1) ys σ2 H5) (hd:∀ys σ H,Pv n ys σ H→R H):
  ∃W:Nat→Nat→List V→L2.St→Hp→Prop,(∃m,W 0 m [] σ0 (upd H l (.lst [])))∧∀i m ys σ' H2,W i m ys σ' H2→
   ((Itr 0 n).stop i H2∧R H2)∨((Itr 0 n).go i H2∧∀x H3,(Itr 0 n).yld i H2 x H3→g x σ' H3 fun σ2 H4=>tc σ2 H4 fun b H5=>if b=true then te σ2 H5 fun v H6=>H6 l=some (.lst ys)∧ys.length < sizeLine∧∃m',m' < m∧W (i+1) m' (ys++[v]) σ2 (upd H6 l (.lst (ys++[v])))
    else ∃m',m' < m∧W (i+1) m' ys σ2 H5):=by
 refine ⟨fun i m ys σ H=>m=n - i∧i≤n∧Pv i ys σ H,⟨n,by simp,Nat.zero_le _,h0⟩,?_⟩
 rintro i m ys σ H ⟨rfl,hi,p⟩
 by_cases hlt:i < n
 ·refine .inr ⟨hlt,fun x H' y=>?_⟩
  obtain ⟨e,e2⟩:=y
  subst e
  have e2:x=.int (i:Int):=by rw [e2,Int.zero_add]
  subst e2
  exact hs i ys σ _ hlt p
 ·have e:i=n:=by lia
  subst e
  exact .inl ⟨kc _,hd ys σ H p⟩
theorem z5B {L:List Int} (h:∀x∈L,0≤x∧x≤9999) (i:Nat):0≤L.getD i 10∧L.getD i 10≤9999:=by
 rw [List.getD_eq_getElem?_getD]
 cases e:L[i]? with
 | none=>exact ⟨by decide,by decide⟩
 | some x=>exact h x (kz e)
theorem z8x:∀x∈([]:List Int),0≤x∧x≤9999:=fun _ h=>by cases h
theorem qv {x:Int} {L:List Int} (h:0≤x∧x≤9999) (hL:∀y∈L,0≤y∧y≤9999):∀y∈x :: L,0≤y∧y≤9999:=fun y hy=>(kw.mp hy).elim (fun e=>by rw [e];exact h) (hL y)
section
variable {K:kn} {H H' H1 H2:Hp} {p:Pl} {c c1 c2 k k1 k2 B B1 B2:Nat} {rs n1 n2:List Row}
theorem zY (g:GS K H p c rs k) (hl:rs.length≤15000) {op:Str} {v:V} {Q:VK} {E:XK} (h:∀H' ln,0≤ln∧ln≤9999→Step K H H' p c rs k c [⟨op,v,ln⟩] k 1→Q .non H'):z09 [.ref p.r,.str op,v] H Q E:=
 qb g (by lia) fun H' s=>h H' _ (zJ hl) s
theorem GS.marked (g:GS K H p c rs k) (kp:∀b o,H b=some o→b≠p.m→H' b=some o) (hm:H' p.m=some (.lst (jO k1))):GS K H' p c rs k1:=by
 obtain ⟨cells,h1,h2⟩:=g.town
 obtain ⟨as,h3,h4⟩:=g.rows
 exact ⟨g.scr.keep fun o u e=>kp _ _ e (jU e g.marks nofun),g.nsl,⟨cells,h1,kp _ _ h2 g.tm⟩,⟨as,kp _ _ h3 g.rm,h4.keep fun b xs e=>kp b _ e (jU e g.marks nofun)⟩,hm,g.tr,g.tm,g.rm⟩
theorem GS.mks (g:GS K H p c rs k) (kp:∀b o,H b=some o→b≠p.m→H' b=some o) {n:Nat} (hm:H' p.m=some (.lst (jO (k+n)))):Step K H H' p c rs k c [] (k+n) n:=by
 refine ⟨?_,kc _,by lia,by simp,by lia,kc _,fun b o e _ _ h3=>kp b o e h3⟩
 rw [kO]
 exact g.marked kp hm
end
def z6t (K:kn):Sp:=fun vs H Q _=>∃(p:Pl) (c:Nat) (rs:List Row) (k:Nat),vs=[.ref p.a,.ref p.t,.ref p.r,.ref p.m]∧GS K H p c rs k∧c+30≤15000∧rs.length+30≤15000∧k+30≤15000∧
 ∀c' new k' H',Step K H H' p c rs k c' new k' 30→Good k k' new→Ty 0 true k k' new→Q .non H'
theorem z8e:zn ["_law_script","_law_town_here","_law_rows","_law_marks","_law_some"] ["_law_script","_law_town_here","_law_rows","_law_marks"] (ze (top 104)):=fsM
noncomputable def z1I:Scope:=match (zV (top 104)).getD 0 (.Pass ⟨0,0,0,0⟩) with
 | .Assign _ (.ListComp _ _ s _) _=>s
 | _=>ze (top 104)
noncomputable def z7J (L:Addr):List (Str × Addr):=[("_law_marks",L+1)]
noncomputable def z45:List (Str × NameKind):=[(".0",.local),("_law_k",.local),("_law_mark",.globalImplicit),("_law_marks",.cell)]
noncomputable def N121:List Str:=["_law_k","_law_marks"]
theorem z7I (f:Addr) (cdv:Value) (L:Addr):closureFor z1I (envOfC "_law_hops" (ze (top 104)) L f cdv)=pure (z7J L):=by rfl
theorem z8i (f:Addr) (cdv:Value) (L:Addr):(relabel z1I (envOfC "_law_hops" (ze (top 104)) L f cdv)).names=z45:=by rfl
theorem z9r:N121.Nodup:=by trivial
theorem z9I {P:Program} {w:World} {K:kn} {mg:Str→Option Value} {base:Heap} {f:Addr} {cdv:Value} {A:Around} {outer:List Env} {s:Shared} {H:Hp} {E:XK}:
  jF (cxOf CX0 P w K mg base ["_law_script","_law_town_here","_law_rows","_law_marks","_law_some"] "_law_hops" (ze (top 104)) f cdv A outer s H E).nox N121 1 [3] z1I (z7J s.heap.objs.size) where
 clos:=z7I f cdv s.heap.objs.size
 nocell:=by trivial
 kind:=rfl
 names:=by trivial
 sub:=fun x c e=>e
 has:=fun x h=>by
  have e:=z8i f cdv s.heap.objs.size
  have h:z45.lookup x=some .cell∨z45.lookup x=some .free:=by rw [←e];exact h
  have:x="_law_marks":=by
   rcases h with h | h
   ·have hm:=PySem.mem_of_lookup h
    simp only [z45,kw,Prod.mk.injEq,kl,or_false] at hm
    rcases hm with z | z | z | z
    all_goals first | exact z.1 | exact z.2.elim | cases z.2
   ·have hm:=PySem.mem_of_lookup h
    simp only [z45,kw,Prod.mk.injEq,kl,or_false] at hm
    rcases hm with z | z | z | z
    all_goals first | exact z.2.elim | cases z.2
  subst this
  exact ⟨_,rfl⟩
 len:=rfl
 free:=fun j x e=>by
  match j,e with
  | 0,e=>cases e;exact ⟨3,rfl,rfl,rfl,rfl,fun c h=>h⟩
  | j+1,e=>exact absurd e (by rw [List.getElem?_eq_none (by show 2≤1+(j+1);lia)];exact nofun)
section
theorem z7A (D:zt K mg "_law_hops" (top 104)) (G:Glo mg) (S:jE P w K mg base):FN P w K mg base 4 "_law_hops" ["_law_script","_law_town_here","_law_rows","_law_marks"] (z6t K):=by
 refine FN.o D z8e fun f cdv A outer s H vs Q E hr h=>?_
 obtain ⟨p,c,rs,k,rfl,g,bc,br,bk,q⟩:=h
 have hr1:=hr.mono (show 1≤3 by decide)
 have hr2:=hr.mono (show 2≤3 by decide)
 refine ⟨_,z8 (jR (i:=4) (N:=N121) (nt:=1) (ix:=[3]) (cl:=z7J s.heap.objs.size) rfl z8e.nd rfl (Or.inl rfl) z9I (qA rfl G.range (z6 zc z7))
   (fun _ _ _ _=>zB (i:=0) z9r rfl (Or.inl rfl)) (fun _ _ _ _=>QQ) (fun _ _ _ _=>zp S.mark hr1 rfl (z6 (pv 1) z7)))
  (z8 (zj (zA S.put3 hr1 rfl (z6 (pv 2) (z6 zf (z6 zf z7)))))
  (z8 (zj (zA S.put3 hr1 rfl (z6 (pv 2) (z6 (zp S.pick hr2 rfl (z6 (pv 0) (z6 (pv 1) (z6 (zO (z6 zf (z6 zf z7))) z7)))) (z6 (zx zr (pv 4) zc (fun _ _=>rfl)) z7)))))
  (z8 (zj (zA S.put3 hr1 rfl (z6 (pv 2) (z6 zf (z6 (zx zr (pv 4) zc (fun _ _=>rfl)) z7)))))
  (z8 (zj (zA S.put3 hr1 rfl (z6 (pv 2) (z6 zf (z6 zf z7)))))
  (z8 (zj (zA S.put3 hr1 rfl (z6 (pv 2) (z6 (zp S.pick hr2 rfl (z6 (pv 0) (z6 (pv 1) (z6 (zO (z6 zf (z6 zf z7))) z7)))) (z6 (zx zr (pv 4) zc (fun _ _=>rfl)) z7)))))
  (z8 (zj (zA S.put3 hr1 rfl (z6 (pv 2) (z6 zf (z6 zf z7)))))
  (z8 (zj (zA S.put3 hr1 rfl (z6 (pv 2) (z6 zf (z6 (zx zr (pv 4) zc (fun _ _=>rfl)) z7)))))
  (z8 (zj (zA S.put3 hr1 rfl (z6 (pv 2) (z6 (zp S.pick hr2 rfl (z6 (pv 0) (z6 (pv 1) (z6 (zO (z6 zf (z6 zf z7))) z7)))) (z6 (zx zr (pv 4) zc (fun _ _=>rfl)) z7)))))
  (z8 (zj (zA S.put3 hr1 rfl (z6 (pv 2) (z6 zf (z6 (zp S.const hr rfl (z6 (pv 0) (z6 (pv 1) z7))) z7)))))
  (z8 (zj (zA S.put3 hr1 rfl (z6 (pv 2) (z6 zf (z6 (zx zr (pv 4) zc (fun _ _=>rfl)) z7)))))
  (z8 (zj (zA S.put3 hr1 rfl (z6 (pv 2) (z6 (zp S.pick hr2 rfl (z6 (pv 0) (z6 (pv 1) (z6 (zO (z6 zf (z6 zf z7))) z7)))) (z6 (zx zr (pv 4) zc (fun _ _=>rfl)) z7)))))
  (z8 (zj (zA S.put3 hr1 rfl (z6 (pv 2) (z6 zf (z6 zc z7)))))
  (z8 (zj (zA S.put2 hr1 rfl (z6 (pv 2) (z6 zf z7))))
  (z8 (zj (zA S.put3 hr1 rfl (z6 (pv 2) (z6 zf (z6 (zx zr (pv 4) zc (fun _ _=>rfl)) z7)))))
  (z8 (zj (zA S.put3 hr1 rfl (z6 (pv 2) (z6 zf (z6 (zx zr (pv 4) zc (fun _ _=>rfl)) z7)))))
  (z8 (zj (zA S.put3 hr1 rfl (z6 (pv 2) (z6 zf (z6 (zx zr (pv 4) zc (fun _ _=>rfl)) z7)))))
  (z8 (zj (zA S.put3 hr1 rfl (z6 (pv 2) (z6 zf (z6 zc z7)))))
  (z8 (zj (zA S.put2 hr1 rfl (z6 (pv 2) (z6 zf z7))))
  (zd (zj (zA S.put3 hr1 rfl (z6 (pv 2) (z6 zf (z6 (zx zr (pv 4) zc (fun _ _=>rfl)) z7)))))))))))))))))))))))),?_⟩
 refine ⟨5,rfl,by decide,by decide,fun nl hnl=>J8 (n:=5) (fun i ys σ H2=>(∃x:Option V,σ=[x,some (.ref p.m)])∧ys=(List.range i).map (fun j=>V.int ((k+j:Nat):Int))∧(∀b o,H b=some o→b≠p.m→H2 b=some o)∧H2 p.m=some (.lst (jO (k+i)))∧H2 nl=some (.lst ys)) ⟨⟨none,rfl⟩,rfl,fun b o e _=>zg hnl _ _ _ e,zg hnl _ _ _ g.marks,zb⟩ ?_ ?_⟩
 ·rintro i ys σ H2 hi ⟨⟨x,rfl⟩,rfl,kp,hm,hn⟩
  have mn:p.m≠nl:=zh g.marks hnl
  refine ZM ?_
  refine QI ?_
  refine ⟨_,rfl,p.m,k+i,rfl,hm,by lia,?_⟩
  refine ⟨by rw [zl mn.symm];exact hn,?_,5 - (i+1),by lia,rfl,by lia,⟨_,rfl⟩,?_,fun b o e hb=>?_,?_,zb⟩
  ·rw [kg,List.length_range]
   exact qh (by lia)
  ·rw [List.range_succ,kE]
   rfl
  ·rw [zl (zh e hnl),zl hb]
   exact kp b o e hb
  ·rw [zl mn,zb]
   rfl
 ·rintro ys σ H1 ⟨_,rfl,kp,hm,hn⟩
  have t0:=g.mks kp hm
  have nt:nl≠p.t:=by
   obtain ⟨cells,_,h2⟩:=g.town
   exact (zh h2 hnl).symm
  have nr:nl≠p.r:=by
   obtain ⟨as,h3,_⟩:=g.rows
   exact (zh h3 hnl).symm
  have nm:nl≠p.m:=(zh g.marks hnl).symm
  have hn:H1 nl=some (.lst [.int (k:Int),.int ((k+1:Nat):Int),.int ((k+2:Nat):Int),.int ((k+3:Nat):Int),.int ((k+4:Nat):Int)]):=hn
  clear hm kp hnl g
  have g0:=t0.gs
  refine ⟨_,rfl,zY t0.gs (by have:=t0.len;lia) fun G0 n0 b0 s0=>?_⟩
  have t1:=t0.trans s0
  have k0:=s0.keep nl _ hn nt nr nm
  refine ⟨_,rfl,_,rfl,_,rfl,by show 2≤sizeLine;decide,fun x1 hx1=>?_⟩
  refine qN t1.gs (by have:=t1.c2;lia) hx1 (by show 1≤2;decide) (by show 2≤1000;decide) fun v1 D1 hv1 d1=>?_
  obtain ⟨o1,rfl,mo1⟩:=JG hv1
  have u1:=t1.tick d1
  have k0d1:=d1.keep nl _ k0 nt nr nm
  refine ⟨_,rfl,nl,_,_,_,rfl,rfl,SqL.of k0d1,zi (j:=4) rfl,zY u1.gs (by have:=u1.len;lia) fun G1 n1 b1 s1=>?_⟩
  have t2:=u1.trans s1
  have k1:=s1.keep nl _ k0d1 nt nr nm
  refine ⟨_,rfl,_,rfl,nl,_,_,_,rfl,rfl,SqL.of k1,zi (j:=4) rfl,zY t2.gs (by have:=t2.len;lia) fun G2 n2 b2 s2=>?_⟩
  have t3:=t2.trans s2
  have k2:=s2.keep nl _ k1 nt nr nm
  refine ⟨_,rfl,zY t3.gs (by have:=t3.len;lia) fun G3 n3 b3 s3=>?_⟩
  have t4:=t3.trans s3
  have k3:=s3.keep nl _ k2 nt nr nm
  refine ⟨_,rfl,_,rfl,_,rfl,by show 2≤sizeLine;decide,fun x4 hx4=>?_⟩
  refine qN t4.gs (by have:=t4.c2;lia) hx4 (by show 1≤2;decide) (by show 2≤1000;decide) fun v4 D4 hv4 d4=>?_
  obtain ⟨o2,rfl,mo2⟩:=JG hv4
  have u4:=t4.tick d4
  have k3d4:=d4.keep nl _ k3 nt nr nm
  refine ⟨_,rfl,nl,_,_,_,rfl,rfl,SqL.of k3d4,zi (j:=0) rfl,zY u4.gs (by have:=u4.len;lia) fun G4 n4 b4 s4=>?_⟩
  have t5:=u4.trans s4
  have k4:=s4.keep nl _ k3d4 nt nr nm
  refine ⟨_,rfl,zY t5.gs (by have:=t5.len;lia) fun G5 n5 b5 s5=>?_⟩
  have t6:=t5.trans s5
  have k5:=s5.keep nl _ k4 nt nr nm
  refine ⟨_,rfl,_,rfl,nl,_,_,_,rfl,rfl,SqL.of k5,zi (j:=0) rfl,zY t6.gs (by have:=t6.len;lia) fun G6 n6 b6 s6=>?_⟩
  have t7:=t6.trans s6
  have k6:=s6.keep nl _ k5 nt nr nm
  refine ⟨_,rfl,_,rfl,_,rfl,by show 2≤sizeLine;decide,fun x7 hx7=>?_⟩
  refine qN t7.gs (by have:=t7.c2;lia) hx7 (by show 1≤2;decide) (by show 2≤1000;decide) fun v7 D7 hv7 d7=>?_
  obtain ⟨o3,rfl,mo3⟩:=JG hv7
  have u7:=t7.tick d7
  have k6d7:=d7.keep nl _ k6 nt nr nm
  refine ⟨_,rfl,nl,_,_,_,rfl,rfl,SqL.of k6d7,zi (j:=1) rfl,zY u7.gs (by have:=u7.len;lia) fun G7 n7 b7 s7=>?_⟩
  have t8:=u7.trans s7
  have k7:=s7.keep nl _ k6d7 nt nr nm
  refine ⟨_,rfl,_,rfl,_,rfl,Qw t8.gs (by have:=t8.c2;lia) fun v D8 hv ho d8=>?_⟩
  have u8:=t8.tick d8
  have k7d8:=d8.keep nl _ k7 nt nr nm
  refine zY u8.gs (by have:=u8.len;lia) fun G8 n8 b8 s8=>?_
  have t9:=u8.trans s8
  have k8:=s8.keep nl _ k7d8 nt nr nm
  refine ⟨_,rfl,_,rfl,nl,_,_,_,rfl,rfl,SqL.of k8,zi (j:=1) rfl,zY t9.gs (by have:=t9.len;lia) fun G9 n9 b9 s9=>?_⟩
  have t10:=t9.trans s9
  have k9:=s9.keep nl _ k8 nt nr nm
  refine ⟨_,rfl,_,rfl,_,rfl,by show 2≤sizeLine;decide,fun x10 hx10=>?_⟩
  refine qN t10.gs (by have:=t10.c2;lia) hx10 (by show 1≤2;decide) (by show 2≤1000;decide) fun v10 D10 hv10 d10=>?_
  obtain ⟨o4,rfl,mo4⟩:=JG hv10
  have u10:=t10.tick d10
  have k9d10:=d10.keep nl _ k9 nt nr nm
  refine ⟨_,rfl,nl,_,_,_,rfl,rfl,SqL.of k9d10,zi (j:=2) rfl,zY u10.gs (by have:=u10.len;lia) fun G10 n10 b10 s10=>?_⟩
  have t11:=u10.trans s10
  have k10:=s10.keep nl _ k9d10 nt nr nm
  refine ⟨_,rfl,zY t11.gs (by have:=t11.len;lia) fun G11 n11 b11 s11=>?_⟩
  have t12:=t11.trans s11
  have k11:=s11.keep nl _ k10 nt nr nm
  refine ⟨_,rfl,zY t12.gs (by have:=t12.len;lia) fun G12 n12 b12 s12=>?_⟩
  have t13:=t12.trans s12
  have k12:=s12.keep nl _ k11 nt nr nm
  refine ⟨_,rfl,_,rfl,nl,_,_,_,rfl,rfl,SqL.of k12,zi (j:=2) rfl,zY t13.gs (by have:=t13.len;lia) fun G13 n13 b13 s13=>?_⟩
  have t14:=t13.trans s13
  have k13:=s13.keep nl _ k12 nt nr nm
  refine ⟨_,rfl,_,rfl,nl,_,_,_,rfl,rfl,SqL.of k13,zi (j:=2) rfl,zY t14.gs (by have:=t14.len;lia) fun G14 n14 b14 s14=>?_⟩
  have t15:=t14.trans s14
  have k14:=s14.keep nl _ k13 nt nr nm
  refine ⟨_,rfl,_,rfl,nl,_,_,_,rfl,rfl,SqL.of k14,zi (j:=3) rfl,zY t15.gs (by have:=t15.len;lia) fun G15 n15 b15 s15=>?_⟩
  have t16:=t15.trans s15
  have k15:=s15.keep nl _ k14 nt nr nm
  refine ⟨_,rfl,zY t16.gs (by have:=t16.len;lia) fun G16 n16 b16 s16=>?_⟩
  have t17:=t16.trans s16
  have k16:=s16.keep nl _ k15 nt nr nm
  refine ⟨_,rfl,zY t17.gs (by have:=t17.len;lia) fun G17 n17 b17 s17=>?_⟩
  have t18:=t17.trans s17
  have k17:=s17.keep nl _ k16 nt nr nm
  refine ⟨_,rfl,_,rfl,nl,_,_,_,rfl,rfl,SqL.of k17,zi (j:=3) rfl,zY t18.gs (by have:=t18.len;lia) fun G18 n18 b18 s18=>?_⟩
  have t19:=t18.trans s18
  have k18:=s18.keep nl _ k17 nt nr nm
  have hl:=z5B (qv b0 (qv b1 (qv b2 (qv b3 (qv b4 (qv b5 (qv b6 (qv b7 (qv b8 (qv b9 (qv b10 (qv b11 (qv b12 (qv b13 (qv b14 (qv b15 (qv b16 (qv b17 (qv b18 z8x)))))))))))))))))))
  have GG:=Good.hops (k:=k) mo1 mo2 mo3 mo4 (Ja hv ho) hl
  have TT:=Ty.hops (k:=k) mo1 mo2 mo3 mo4 v (fun i=>[n0,n1,n2,n3,n4,n5,n6,n7,n8,n9,n10,n11,n12,n13,n14,n15,n16,n17,n18].getD i 10)
  clear hl
  unfold My.hops at GG TT
  simp only [List.getD_cons_zero,List.getD_cons_succ] at GG TT
  exact q _ _ _ _ (t19.more (by lia)) GG TT
end
section
variable {X:Cx}
theorem z78 (hu:X.A.units < cLine):OpR X (compareOp .NotEq) (fun x y H Q=>∃(l:Addr) (ss:List Str),x=.ref l∧SqL X.K H l (ss.map V.str)∧((y=.non∧Q (.bl true) H)∨∃(l':Addr) (ss':List Str),y=.ref l'∧SqL X.K H l' (ss'.map V.str)∧Q (.bl (!decide (ss=ss'))) H)):=by
 intro pins s σ H x y v u Q I rx ry h
 obtain ⟨l,ss,rfl,hl,h⟩:=h
 cases rx
 obtain ⟨its,rv,pl,_⟩:=I.list hl
 have hlen:=rv.length
 rw [kg] at hlen
 rcases h with ⟨rfl,q⟩ | ⟨l',ss',rfl,hl',q⟩
 ·cases ry
  exact SeqAt.RcNeAt.list_none pl.isList hu X.prog X.w X.xe _ ⟨.bl _,H,I,rfl,q⟩
 ·cases ry
  obtain ⟨its',rv',pl',_⟩:=I.list hl'
  have hlen':=rv'.length
  rw [kg] at hlen'
  by_cases hz:its.length=its'.length
  ·refine SeqAt.RcNeAt.lists (e:=fun j=>decide (ss[j]?=ss'[j]?)) pl.isList pl'.isList (by simpa using hz) hu (fun j h1 h2=>?_) X.prog X.w X.xe _ ⟨.bl _,H,I,rfl,?_⟩
   ·have h1:j < its.length:=by simpa using h1
    have h2:j < its'.length:=by simpa using h2
    have k1:j < ss.length:=by lia
    have k2:j < ss'.length:=by lia
    obtain ⟨u,e1,t,r1⟩:=rv.get (show (ss.map V.str)[j]?=some (.str ss[j]) by simp [k1])
    obtain ⟨u',e2,t',r2⟩:=rv'.get (show (ss'.map V.str)[j]?=some (.str ss'[j]) by simp [k2])
    have f1:its.toArray[j]=.str ss[j] t:=by
     have:=kF h1
     rw [e1] at this
     rw [←r1]
     simpa using (kr this).symm
    have f2:its'.toArray[j]=.str ss'[j] t':=by
     have:=kF h2
     rw [e2] at this
     rw [←r2]
     simpa using (kr this).symm
    rw [f1,f2]
    have:=SeqAt.EqAt.str_str (A:=X.A.in1) (s:=s) ss[j] t ss'[j] t'
    have e:decide (ss[j]?=ss'[j]?)=(ss[j] == ss'[j]):=by
     rw [kF k1,kF k2]
     by_cases e:ss[j]=ss'[j] <;> simp [e]
    rw [e]
    exact this
   ·have e:(List.range its.toArray.size).all (fun j=>decide (ss[j]?=ss'[j]?))=decide (ss=ss'):=by
     rw [Bool.eq_iff_iff,List.all_eq_true,decide_eq_true_iff]
     refine ⟨fun h=>List.ext_getElem? fun j=>?_,fun e j _=>by rw [e];simp⟩
     by_cases hj:j < its.length
     ·exact ku (h j (List.mem_range.mpr (by simpa using hj)))
     ·rw [List.getElem?_eq_none (by lia),List.getElem?_eq_none (by lia)]
    rw [e]
    exact q
  ·refine SeqAt.RcNeAt.lists_lengths pl.isList pl'.isList (by simpa using hz) hu X.prog X.w X.xe _ ⟨.bl _,H,I,rfl,?_⟩
   have:ss≠ss':=fun e=>hz (by rw [←hlen,←hlen',e])
   rw [ke this] at q
   exact q
end
theorem cd1:CD 3 1 384:=⟨1,rfl,by decide,rfl⟩
theorem cmv3 (e:Int):CMV 3 e 30:=⟨by decide,rfl⟩
theorem z5h {v:V} (h:v∈([.str "add",.str "sub",.str "mul",.str "div",.str "less",.str "same"]:List V)):∃op,v=.str op∧Bare op .non∧jQ op 2 1:=by
 simp only [kw,kl,or_false] at h
 rcases h with rfl | rfl | rfl | rfl | rfl | rfl
 ·exact ⟨"add",rfl,je (by trivial),ZD _ (by simp)⟩
 ·exact ⟨"sub",rfl,je (by trivial),ZD _ (by simp)⟩
 ·exact ⟨"mul",rfl,je (by trivial),ZD _ (by simp)⟩
 ·exact ⟨"div",rfl,je (by trivial),ZD _ (by simp)⟩
 ·exact ⟨"less",rfl,je (by trivial),ZD _ (by simp)⟩
 ·exact ⟨"same",rfl,je (by trivial),ZD _ (by simp)⟩
theorem z73 {v:V} (h:v∈([.str "neg",.str "not"]:List V)):∃op,v=.str op∧Bare op .non∧jQ op 1 1:=by
 simp only [kw,kl,or_false] at h
 rcases h with rfl | rfl
 ·exact ⟨"neg",rfl,je (by trivial),z1W _ (by simp)⟩
 ·exact ⟨"not",rfl,je (by trivial),z1W _ (by simp)⟩
def z3y (K:kn):Sp:=fun vs H Q _=>∃(a t:Addr) (ns:List Int) (c:Nat) (cells:List Int),vs=[.ref a,.ref t]∧Scr K H a (ns.map V.int)∧ns.length≤1000∧cells.length=ns.length∧H t=some (.lst (qU c cells))∧c≤90∧
 ∀(l:Addr) (as:List Addr) (rs:List Row) (k c':Nat) (cells':List Int) H',H' l=some (.lst (as.map V.ref))→zv H' as rs→Good 0 k rs→(∃Γ:Int→Option Sta,(∀m,Γ m≠none→0≤m∧m < (k:Int))∧chk Γ rs (some (0,[]))=some none)→k≤90→1≤rs.length→rs.length≤140→l≠t→cells'.length=ns.length→H' t=some (.lst (qU c' cells'))→c'≤14000→Qp H H' t→Q (.ref l) H'
theorem z1k:zn ["_law_script","_law_town_here","_law_rows","_law_marks","_law_k","_law_way","_law_j"] ["_law_script","_law_town_here"] (ze (top 103)):=fsM
section
theorem z5Y (D:zt K mg "_law_dense" (top 103)) (G:Glo mg) (S:jE P w K mg base) (FV:FN P w K mg base 9 "_law_value" gps (qu K (CV 3) 1 true)) (FM:FN P w K mg base 10 "_law_moved_value" gps (qu K (CMV 3) 1 true)) (FD:FN P w K mg base 16 "_law_deed" gps (qu K (CD 3) 0 false))
  (FH:FN P w K mg base 4 "_law_hops" ["_law_script","_law_town_here","_law_rows","_law_marks"] (z6t K)):FN P w K mg base 17 "_law_dense" ["_law_script","_law_town_here"] (z3y K):=by
 refine FN.o D z1k fun f cdv A outer s H vs Q E hr h=>?_
 obtain ⟨a,t,ns,c,cells,rfl,hS,hns,hcl,hT,hc,q⟩:=h
 have hr1:=hr.mono (show 1≤16 by decide)
 have hr2:=hr.mono (show 2≤16 by decide)
 have hr3:=hr.mono (show 3≤16 by decide)
 have hr4:=hr.mono (show 4≤16 by decide)
 have hr9:=hr.mono (show 9≤16 by decide)
 have hr10:=hr.mono (show 10≤16 by decide)
 refine ⟨_,(z8 (zI (i:=2) z1k.nd rfl (Or.inl rfl) (zO z7))
  (z8 (zI (i:=3) z1k.nd rfl (Or.inl rfl) (zO z7))
  (z8 (Z1 PassesOwn.never rfl (qA rfl G.range (z6 (zG j9 zc (zp S.draw hr1 rfl (z6 (pv 0) (z6 (pv 1) (z6 zc z7))))) z7)) (zB (i:=4) z1k.nd rfl (Or.inl rfl)) (z8 (zI (i:=5) z1k.nd rfl (Or.inl rfl) (zp S.draw hr1 rfl (z6 (pv 0) (z6 (pv 1) (z6 zc z7)))))
  (zd (zH (zk qe (pv 5) zc (zo _)) (z8 (zj (zp FM hr10 rfl (z6 (pv 0) (z6 (pv 1) (z6 (pv 2) (z6 (pv 3) (z6 zc z7)))))))
  (zd (zj (zA S.put2 hr1 rfl (z6 (pv 2) (z6 zf z7)))))) (zd (zH (zk qe (pv 5) zc (zo _)) (z8 (Z1 PassesOwn.never rfl (qA rfl G.range (z6 zc z7)) (zB (i:=6) z1k.nd rfl (Or.inl rfl)) (zd (zj (zA S.put3 hr1 rfl (z6 (pv 2) (z6 zf (z6 (zp S.const hr3 rfl (z6 (pv 0) (z6 (pv 1) z7))) z7)))))))
  (z8 (Z1 PassesOwn.never rfl (qA rfl G.range (z6 zc z7)) (zB (i:=6) z1k.nd rfl (Or.inl rfl)) (zd (zj (zA S.put2 hr1 rfl (z6 (pv 2) (z6 (zp S.pick hr2 rfl (z6 (pv 0) (z6 (pv 1) (z6 (zO (z6 zf (z6 zf (z6 zf (z6 zf (z6 zf (z6 zf z7))))))) z7)))) z7))))))
  (zd (zj (zA S.put2 hr1 rfl (z6 (pv 2) (z6 zf z7))))))) (zd (zH (zk qe (pv 5) zc (zo _)) (zd (zj (zp FH hr4 rfl (z6 (pv 0) (z6 (pv 1) (z6 (pv 2) (z6 (pv 3) z7))))))) (zd (zH (zk qe (pv 5) zc (zo _)) (z8 (zj (zA S.put3 hr1 rfl (z6 (pv 2) (z6 zf (z6 (zp S.const hr3 rfl (z6 (pv 0) (z6 (pv 1) z7))) z7)))))
  (z8 (zj (zA S.put2 hr1 rfl (z6 (pv 2) (z6 (zp S.pick hr2 rfl (z6 (pv 0) (z6 (pv 1) (z6 (zO (z6 zf (z6 zf z7))) z7)))) z7))))
  (z8 (zj (zA S.put3 hr1 rfl (z6 (pv 2) (z6 zf (z6 zc z7)))))
  (z8 (zj (zA S.put2 hr1 rfl (z6 (pv 2) (z6 zf z7))))
  (zd (zj (zA S.put2 hr1 rfl (z6 (pv 2) (z6 zf z7))))))))) (zd (zj (zp FD hr rfl (z6 (pv 0) (z6 (pv 1) (z6 (pv 2) (z6 (pv 3) (z6 zc z7))))))))))))))))))
  (z8 (zj (zp FV hr9 rfl (z6 (pv 0) (z6 (pv 1) (z6 (pv 2) (z6 (pv 3) (z6 zc z7)))))))
  (z8 (zj (zA S.put2 hr1 rfl (z6 (pv 2) (z6 zf z7))))
  (z8 (zH (PW.pt (Zq (zk JN (zw zy rfl G.len zW (z6 (pv 2) z7)) zc (zo _)) (jr (zk JN (zw zy rfl G.len zW (z6 (pv 3) z7)) zc (zo _))))) (zd (zm (zO (z6 (zF (z6 zf (z6 zf (z6 zc z7)))) (z6 (zF (z6 zf (z6 qc (z6 zc z7)))) z7))))) zu)
  (zd (zm (pv 2))))))))),?_⟩
 refine ⟨by show 0≤sizeLine;decide,fun r hr0=>⟨by show 0≤sizeLine;decide,fun m hm0=>?_⟩⟩
 have sr:Same H (upd H r (.lst [])):=zg hr0 _
 have sm:Same (upd H r (.lst [])) (upd (upd H r (.lst [])) m (.lst [])):=zg hm0 _
 have rm:r≠m:=zh (H:=upd H r (.lst [])) zb hm0
 have tr:t≠r:=zh hT hr0
 have tm:t≠m:=zh (sr _ _ hT) hm0
 have s02:=sr.trans sm
 generalize hH2:upd (upd H r (.lst [])) m (.lst [])=H2 at *
 have hr2':H2 r=some (.lst []):=by rw [←hH2,zl rm];exact zb
 have hm2':H2 m=some (.lst []):=by rw [←hH2];exact zb
 have g:GS K H2 ⟨a,t,r,m,ns⟩ c [] 0:=⟨hS.keep fun o u e=>s02 _ _ e,hns,⟨cells,hcl,s02 _ _ hT⟩,⟨[],hr2',.nil⟩,hm2',tr,tm,rm⟩
 generalize hp:(⟨a,t,r,m,ns⟩:Pl)=p at *
 have pa:p.a=a:=by rw [←hp]
 have pt:p.t=t:=by rw [←hp]
 have pr:p.r=r:=by rw [←hp]
 have pm:p.m=m:=by rw [←hp]
 have pn:p.ns=ns:=by rw [←hp]
 subst pa pt pr pm pn
 clear hp
 refine ⟨_,rfl,_,rfl,jq g (by lia) (by decide) (by decide) fun j H3 j0 j1 s3=>?_⟩
 refine ⟨_,_,rfl,rfl,1+j,rfl,by lia,by lia,jw (lo:=0) (n:=(1+j).toNat) (fun i σ H4=>∃v w z c' new k',σ=[some (.ref p.a),some (.ref p.t),some (.ref p.r),some (.ref p.m),v,w,z]∧Step K H2 H4 p c [] 0 c' new k' (1+390 * i)∧Good 0 k' new∧Ty 0 false 0 k' new)
  ⟨none,none,none,_,_,_,rfl,s3,Good.nil 0,(Ty.nil 0).weak⟩ ?_ ?_⟩
 ·rintro i σ H4 hi ⟨v,w0,z0,c',new,k',rfl,st,gd,ty⟩
  have hin:i < 5:=by lia
  have l:=st.len
  have lc:=st.c2
  have lk:=st.k2
  rw [List.length_nil] at l
  refine ⟨_,rfl,_,rfl,jq st.gs (by lia) (by decide) (by decide) fun y H5 y0 y1 s5=>?_⟩
  have t5:=st.tick s5
  have fin:∀{v1 w1 z1:Option V} {c6:Nat} {n6:List Row} {k6 B:Nat} {su:Bool} {H6:Hp},B≤385→Step K H5 H6 p (c'+1) ([]++new) k' c6 n6 k6 B→Good k' k6 n6→Ty 0 su k' k6 n6→
    ∃v w z c' new k',[some (V.ref p.a),some (.ref p.t),some (.ref p.r),some (.ref p.m),v1,w1,z1]=[some (V.ref p.a),some (.ref p.t),some (.ref p.r),some (.ref p.m),v,w,z]∧Step K H2 H6 p c [] 0 c' new k' (1+390 * (i+1))∧Good 0 k' new∧Ty 0 false 0 k' new:=fun {v1 w1 z1 c6 n6 k6 B su H6} hB s6 g6 y6=>
   ⟨v1,w1,z1,c6,new++n6,k6,rfl,(t5.trans s6).more (by lia),gd.app g6 (Nat.zero_le _) s6.k1,((ty.app y6 (Nat.zero_le _) s6.k1 (by decide)).cast (by decide))⟩
  have lz:([]++new:List Row).length≤2000:=by rw [List.nil_append];simp at l;lia
  have ck:c'≤2100:=by lia
  have kk:k'≤2000:=by lia
  refine ⟨_,rfl,rfl,_,rfl,?_⟩
  refine ite2 (fun _=>?_) (fun _=>?_)
  ·refine ⟨_,rfl,_,rfl,_,rfl,_,rfl,p,_,_,_,_,30,rfl,cmv3 _,t5.gs,(by lia),(by lia),(by lia),fun c6 n6 k6 H6 s6 g6 y6=>?_⟩
   have l6:=s6.len
   refine ⟨_,rfl,zY s6.gs (by lia) fun H7 ln b7 s7=>?_⟩
   exact fin (B:=31) (by lia) (s6.trans s7) (g6.put s6.k1 Zm b7.1 b7.2) ((y6.row (j3 _ (by simp)) (by decide) _ _).cast (by decide))
  ·refine ⟨_,rfl,rfl,_,rfl,?_⟩
   refine ite2 (fun _=>?_) (fun _=>?_)
   ·refine ⟨3,rfl,by decide,by decide,jw (lo:=0) (n:=3) (fun i1 σ H6=>∃v w z c6 n6,σ=[some (.ref p.a),some (.ref p.t),some (.ref p.r),some (.ref p.m),v,w,z]∧Step K H5 H6 p (c'+1) ([]++new) k' c6 n6 k' (2 * i1)∧Good k' k' n6∧Ty (i1:Int) true k' k' n6)
     ⟨_,_,_,_,_,rfl,t5.gs.refl,Good.nil k',Ty.nil k'⟩ ?_ ?_⟩
    ·rintro i1 σ H6 hi1 ⟨v,w,z,c6,n6,rfl,s6,g6,y6⟩
     have l6:=s6.len
     have lc6:=s6.c2
     refine ⟨_,rfl,_,rfl,_,rfl,Qw s6.gs (by lia) fun v7 H7 hv ho s7=>?_⟩
     have t7:=s6.tick s7
     have l7:=t7.len
     refine zY t7.gs (by lia) fun H8 ln b8 s8=>?_
     exact ⟨_,_,_,_,_,rfl,(t7.trans s8).more (by lia),g6.put (kc _) (Ja hv ho) b8.1 b8.2,(y6.row jf (by lia) _ _).cast (by push_cast;lia)⟩
    rintro σ H6 ⟨v,w,z,c6,n6,rfl,s6,g6,y6⟩
    refine ⟨2,rfl,by decide,by decide,jw (lo:=0) (n:=2) (fun i1 σ H6=>∃v w z c6 n6,σ=[some (.ref p.a),some (.ref p.t),some (.ref p.r),some (.ref p.m),v,w,z]∧Step K H5 H6 p (c'+1) ([]++new) k' c6 n6 k' (6+2 * i1)∧Good k' k' n6∧Ty (3 - (i1:Int)) true k' k' n6)
     ⟨_,_,_,_,_,rfl,s6,g6,y6.cast (by decide)⟩ ?_ ?_⟩
    ·rintro i1 σ H6 hi1 ⟨v,w,z,c6,n6,rfl,s6,g6,y6⟩
     have l6:=s6.len
     have lc6:=s6.c2
     refine ⟨_,rfl,_,rfl,_,rfl,by show 6≤sizeLine;decide,fun x hx=>?_⟩
     refine qN s6.gs (by lia) hx (by show 1≤6;decide) (by show 6≤1000;decide) fun v7 H7 hv s7=>?_
     obtain ⟨op,rfl,hb,hpl⟩:=z5h hv
     have t7:=s6.tick s7
     have l7:=t7.len
     refine zY t7.gs (by lia) fun H8 ln b8 s8=>?_
     exact ⟨_,_,_,_,_,rfl,(t7.trans s8).more (by lia),g6.put (kc _) hb b8.1 b8.2,(y6.row hpl (by lia) _ _).cast (by push_cast;lia)⟩
    rintro σ H7 ⟨v,w,z,c7,n7,rfl,s7,g7,y7⟩
    have l7:=s7.len
    refine ⟨_,rfl,zY s7.gs (by lia) fun H8 ln b8 s8=>?_⟩
    exact fin (B:=11) (by lia) (s7.trans s8) (g7.put (kc _) Zm b8.1 b8.2) ((y7.row (j3 _ (by simp)) (by decide) _ _).cast (by decide))
   ·refine ⟨_,rfl,rfl,_,rfl,?_⟩
    refine ite2 (fun _=>?_) (fun _=>?_)
    ·refine ⟨_,rfl,_,rfl,_,rfl,_,rfl,p,_,_,_,rfl,t5.gs,(by lia),(by lia),(by lia),fun c6 n6 k6 H6 s6 g6 y6=>?_⟩
     exact fin (B:=30) (by lia) s6 g6 y6
    ·refine ⟨_,rfl,rfl,_,rfl,?_⟩
     refine ite2 (fun _=>?_) (fun _=>?_)
     ·refine ⟨_,rfl,_,rfl,_,rfl,Qw t5.gs (by lia) fun v7 H7 hv ho s7=>?_⟩
      have t7:=s7
      have l7:=t7.len
      refine zY t7.gs (by lia) fun H8 ln8 b8 s8=>?_
      have t8:=t7.trans s8
      have l8:=t8.len
      refine ⟨_,rfl,_,rfl,_,rfl,by show 2≤sizeLine;decide,fun x hx=>?_⟩
      refine qN t8.gs (by have:=t8.c2;lia) hx (by show 1≤2;decide) (by show 2≤1000;decide) fun v9 H9 hv9 s9=>?_
      obtain ⟨op,rfl,hb,hpl⟩:=z73 hv9
      have t9:=t8.tick s9
      have l9:=t9.len
      refine zY t9.gs (by lia) fun HA lnA bA sA=>?_
      have tA:=t9.trans sA
      have lA:=tA.len
      refine ⟨_,rfl,zY tA.gs (by lia) fun HB lnB bB sB=>?_⟩
      have tB:=tA.trans sB
      have lB:=tB.len
      refine ⟨_,rfl,zY tB.gs (by lia) fun HC lnC bC sC=>?_⟩
      have tC:=tB.trans sC
      have lC:=tC.len
      refine ⟨_,rfl,zY tC.gs (by lia) fun HD lnD bD' sD=>?_⟩
      refine fin (B:=385) (su:=true) (by lia) ((tC.trans sD).more (by lia)) ((((((Good.nil k').put (kc _) (Ja hv ho) b8.1 b8.2).put (kc _) hb bA.1 bA.2).put (kc _) (z6F (by decide) (by decide)) bB.1 bB.2).put (kc _) z2q bC.1 bC.2).put (kc _) Zm bD'.1 bD'.2) ?_
      have y1:Ty 1 true k' k' _:=((Ty.nil k').row jf (by decide) v7 ln8).cast (by decide)
      have y2:Ty 1 true k' k' _:=(y1.row hpl (by decide) .non lnA).cast (by decide)
      have y3:Ty 2 true k' k' _:=(y2.deep JV (n:=1) (by decide) lnB).cast (by decide)
      have y4:Ty 1 true k' k' _:=(y3.row (j3 "drop" (by simp)) (by decide) .non lnC).cast (by decide)
      exact (y4.row (j3 "tell" (by simp)) (by decide) .non lnD).cast (by decide)
     ·refine ⟨_,rfl,_,rfl,_,rfl,_,rfl,p,_,_,_,_,384,rfl,cd1,t5.gs,(by lia),(by lia),(by lia),fun c6 n6 k6 H6 s6 g6 y6=>?_⟩
      exact fin (B:=384) (by lia) s6 g6 y6
 rintro σ H4 ⟨v4,w4,z4,c4,n4,k4,rfl,t4,g4,y4⟩
 have t4:=t4.more (show _≤2000 by lia)
 refine ⟨_,rfl,_,rfl,_,rfl,_,rfl,p,_,_,_,_,3,rfl,cv0,t4.gs,(by have:=t4.c2;lia),(by have:=t4.len;simp at this ⊢;lia),(by have:=t4.k2;lia),fun c5 n5 k5 H5 s5 g5 y5=>?_⟩
 have t5:=t4.trans s5
 refine ⟨_,rfl,qb t5.gs (by have:=t5.len;simp at this ⊢;lia) fun H6 s6=>?_⟩
 have t6:=t5.trans s6
 have L5:=zJ (km t5.len (show _≤15000 by simp))
 have g6:=(g4.app g5 (Nat.zero_le _) s5.k1).put (Nat.zero_le _) QD L5.1 L5.2
 have cK:n4.length+n5.length≤998→∃Γ:Int→Option Sta,(∀m,Γ m≠none→0≤m∧m < (k5:Int))∧chk Γ (n4++n5++[(⟨Str.ofString "return",.non,10+(([]++(n4++n5):List Row).length:Int) / 2⟩:Row)]) (some (0,[]))=some none:=fun hz=>JT (y4.whole y5 (Nat.zero_le _) s5.k1 _ hz)
 have hlen:(n4++n5++[(⟨Str.ofString "return",.non,10+(([]++(n4++n5):List Row).length:Int) / 2⟩:Row)]).length=n4.length+n5.length+1:=by rw [kh,kh];rfl
 generalize hn:n4++n5++[(⟨Str.ofString "return",.non,10+(([]++(n4++n5):List Row).length:Int) / 2⟩:Row)]=nn at *
 have hpos:1≤nn.length:=by rw [←hn];simp only [kh,kJ,List.length_nil,ky];lia
 obtain ⟨as,h3,h4⟩:=t6.gs.rows
 have hal:(as.map V.ref).length=nn.length:=by rw [kg,h4.len];rfl
 obtain ⟨cells',hl',hT'⟩:=t6.gs.town
 have hc6:=t6.c2
 have kp:Qp H H6 p.t:=fun b o e hb=>t6.keep b o (s02 _ _ e) hb (zh e hr0) (fun z=>by
  have:=sr _ _ e
  rw [z,hm0] at this
  cases this)
 have two:∀H7,Same H6 H7→∀x y l,H7 x=some (.tup [.str "load",.str "a",.int 7])→H7 y=some (.tup [.str "return",.non,.int 8])→H7 l=some (.lst [.ref x,.ref y])→l≠p.t→Q (.ref l) H7:=fun H7 s7 x y l hx hy hl hlt=>by
  have b1:Bare "load" (.str "a"):=z14 (by simp)
  refine q l [x,y] [⟨"load",.str "a",7⟩,⟨"return",.non,8⟩] 0 _ cells' H7 hl (.cons hx (.cons hy .nil)) ?_ z3g (by decide) (by simp) (by simp) hlt hl' (s7 _ _ hT') (by lia) fun b o e hb=>s7 _ _ (kp b o e hb)
  exact (b1.good (by decide) (by decide) 0).put (kc _) QD (by decide) (by decide)
 have fin:nn.length≤140→k5≤90→Q (.ref p.r) H6:=fun h1 h2=>q p.r as nn k5 _ cells' H6 h3 h4 g6 (cK (by lia)) h2 hpos h1 g.tr.symm hl' hT' (by lia) kp
 refine ⟨_,rfl,p.r,_,rfl,.inl (SqL.of h3),_,_,rfl,rfl,_,rfl,?_⟩
 have short:tTup (qV (tC (.str "load")) (qV (tC (.str "a")) (qV (tC (.int 7)) tNil))) [some (.ref p.a),some (.ref p.t),some (.ref p.r),some (.ref p.m),v4,w4,z4] H6 (fun x H7=>tTup (qV (tC (.str "return")) (qV (tC .non) (qV (tC (.int 8)) tNil))) [some (.ref p.a),some (.ref p.t),some (.ref p.r),some (.ref p.m),v4,w4,z4] H7 fun y H8=>[x,y].length≤sizeLine∧∀l,H8 l=none→Q (.ref l) (upd H8 l (.lst [x,y]))):=by
  refine ⟨by show 3≤sizeLine;decide,fun x hx=>⟨by show 3≤sizeLine;decide,fun y hy=>⟨by show 2≤sizeLine;decide,fun l hl=>?_⟩⟩⟩
  have sx:Same H6 (upd H6 x (.tup [.str "load",.str "a",.int 7])):=zg hx _
  have sy:=zg hy (.tup [.str "return",.non,.int 8])
  have sl:=zg hl (.lst [.ref x,.ref y])
  refine two _ (sx.trans (sy.trans sl)) x y l (sl _ _ (sy _ _ zb)) (sl _ _ zb) zb ?_
  exact (zh (sy _ _ (sx _ _ hT')) hl).symm
 refine ite2 (fun c1=>?_) (fun c1=>?_)
 ·exact iteT short
 ·have hn1:nn.length≤140:=by
   rw [hal] at c1
   have:¬((140:Int) < (nn.length:Int)):=fun z=>c1 (kf z)
   lia
  refine ⟨_,rfl,p.m,_,rfl,.inl (SqL.of t6.gs.marks),_,_,rfl,rfl,_,rfl,?_⟩
  refine ite2 (fun c2=>short) (fun c2=>?_)
  rw [Zd] at c2
  have hk:k5≤90:=by
   have:¬((90:Int) < (k5:Int)):=fun z=>c2 (kf z)
   lia
  exact ⟨_,rfl,fin hn1 hk⟩
theorem z9e:zn ["_law_script","_law_town_here"] ["_law_script","_law_town_here"] (ze (top 105)):=fsM
def z6q (K:kn):Sp:=fun vs H Q _=>∃(a t:Addr) (ns:List Int) (c:Nat) (cells:List Int),vs=[.ref a,.ref t]∧Scr K H a (ns.map V.int)∧ns.length≤1000∧cells.length=ns.length∧H t=some (.lst (qU c cells))∧c≤80∧
 ∀(l:Addr) (as:List Addr) (rs:List Row) (k c':Nat) (cells':List Int) H',H' l=some (.lst (as.map V.ref))→zv H' as rs→Good 0 k rs→(∃Γ:Int→Option Sta,(∀m,Γ m≠none→0≤m∧m < (k:Int))∧chk Γ rs (some (0,[]))=some none)→k≤90→1≤rs.length→rs.length≤140→l≠t→cells'.length=ns.length→H' t=some (.lst (qU c' cells'))→c'≤14000→Qp H H' t→Q (.ref l) H'
theorem z7m (D:zt K mg "_law_some_code" (top 105)) (S:jE P w K mg base) (FE:FN P w K mg base 17 "_law_dense" ["_law_script","_law_town_here"] (z3y K)) (FC:FN P w K mg base 17 "_law_code" ["_law_script","_law_town_here","_law_many"] (z0b K)):FN P w K mg base 18 "_law_some_code" ["_law_script","_law_town_here"] (z6q K):=by
 refine FN.o D z9e fun f cdv A outer s H vs Q E hr h=>?_
 obtain ⟨a,t,ns,c,cells,rfl,hS,hns,hcl,hT,hc,q⟩:=h
 have hr1:=hr.mono (show 1≤17 by decide)
 refine ⟨_,z8 (zH (zk qe (zp S.draw hr1 rfl (z6 (pv 0) (z6 (pv 1) (z6 zc z7)))) zc (zo _)) (zd (zm (zp FE hr rfl (z6 (pv 0) (z6 (pv 1) z7))))) zu)
  (zd (zm (zp FC hr rfl (z6 (pv 0) (z6 (pv 1) (z6 zc z7)))))),?_⟩
 refine ⟨_,rfl,_,rfl,a,t,ns,c,cells,2,rfl,hS,hns,hcl,hT,by lia,by decide,by decide,fun i cells1 H1 i0 i1 l1 hT1 k1=>?_⟩
 have hS1:=hS.keep1 k1 hT
 refine ⟨rfl,_,rfl,?_⟩
 refine ite2 (fun _=>?_) (fun _=>?_)
 ·exact ⟨_,rfl,_,rfl,a,t,ns,c+1,cells1,rfl,hS1,hns,l1,hT1,by lia,fun l as rs k c' cells' H' h1 h2 h3 h4 h5 h6 h7 h8 h9 h10 h11 h12=>q l as rs k c' cells' H' h1 h2 h3 h4 h5 h6 h7 h8 h9 h10 h11 fun b o e hb=>h12 b o (k1 b o e hb) hb⟩
 ·exact ⟨_,rfl,_,rfl,a,t,ns,c+1,cells1,3,rfl,hS1,hns,l1,hT1,by lia,by decide,by decide,fun l as rs k c' cells' H' h1 h2 h3 h4 h5 h6 h7 h8 h9 h10 h11 h12=>q l as rs k c' cells' H' h1 h2 h3 h4 h5 h6 h7 h8 h9 h10 h11 fun b o e hb=>h12 b o (k1 b o e hb) hb⟩
end
set_option maxHeartbeats 4000000
section
theorem sc87:zn ["_law_thing"] ["_law_thing"] (ze (top 87)):=fsM
theorem z5P (D:zt K mg "_law_whole" (top 87)) (G:Glo mg):FN P w K mg base 1 "_law_whole" ["_law_thing"] (sp1 jb):=by
 refine FN.o D sc87 fun f cdv A outer s H vs Q E hr h=>?_
 obtain ⟨x,rfl,hx,q⟩:=h
 refine ⟨_,zd (zm (jh (zw qd rfl G.isinstance zE (z6 (pv 0) (z6 (Q0 "int" rfl G.int z2o) z7)))
  (j8 (z1Y (zw qd rfl G.isinstance zE (z6 (pv 0) (z6 (Q0 "bool" rfl G.bool jd) z7))))))),?_⟩
 obtain ⟨t1,ty1,k1⟩:=z29 (K:=K) (H:=H) hx
 obtain ⟨t2,ty2,k2⟩:=jv (K:=K) (H:=H) hx
 refine ⟨_,rfl,_,"int",t1,_,rfl,ty1,k1,_,rfl,?_⟩
 cases hx with
 | non=>exact q
 | bl b=>exact ⟨_,rfl,_,"bool",t2,_,rfl,ty2,k2,_,rfl,q⟩
 | int i=>exact ⟨_,rfl,_,"bool",t2,_,rfl,ty2,k2,_,rfl,q⟩
 | str s _=>exact q
end
noncomputable def tagV (r1 r2:V):List V:=match r1 with
 | .non=>[.str "value",r2]
 | k=>[.str "kind",k]
theorem z7N (i:Int):big (-i)=big i:=by
 unfold big
 rw [Int.natAbs_neg]
theorem Qj {i j:Int} (h:big i=false) (hp:0 < j):big (i.fdiv j)=false:=by
 have h1:¬1000000000000000000 < i.natAbs:=of_decide_eq_false h
 refine ke fun z=>h1 (kG z ?_)
 have e:=Int.mul_fdiv_add_fmod i j
 have m1:=Int.fmod_nonneg_of_pos i hp
 have m2:=Int.fmod_lt_of_pos i hp
 generalize i.fdiv j=q at *
 generalize i.fmod j=m at *
 by_cases hq:q.natAbs≤i.natAbs
 ·exact hq
 ·exfalso
  rcases Int.lt_or_le q 0 with q0 | q0
  ·have:(j - 1) * (q+1)≤0:=Int.mul_nonpos_of_nonneg_of_nonpos (by lia) (by lia)
   have e3:(j - 1) * (q+1)=j * q+j - q - 1:=by rw [Int.sub_mul,Int.mul_add,Int.mul_one,Int.one_mul];lia
   lia
  ·have:0≤(j - 1) * q:=Int.mul_nonneg (by lia) q0
   have e3:(j - 1) * q=j * q - q:=by rw [Int.sub_mul,Int.one_mul]
   lia
theorem z6f {i j:Int} (h:big i=false) (hj:j≠0):big (i.fdiv j)=false:=by
 rcases Int.lt_or_gt_of_ne hj with hn | hp
 ·rw [←Int.neg_fdiv_neg]
  exact Qj (by rw [z7N];exact h) (by lia)
 ·exact Qj h hp
theorem z6e {i j:Int} (h:big j=false) (hj:j≠0):big (i.fmod j)=false:=by
 have h1:¬1000000000000000000 < j.natAbs:=of_decide_eq_false h
 refine ke fun z=>h1 (kG z ?_)
 rcases Int.lt_or_gt_of_ne hj with hn | hp
 ·have e:(-i).fmod (-j)= -(i.fmod j):=Int.neg_fmod_neg ..
  have m1:=Int.fmod_nonneg_of_pos (-i) (b:= -j) (by lia)
  have m2:=Int.fmod_lt_of_pos (-i) (b:= -j) (by lia)
  lia
 ·have m1:=Int.fmod_nonneg_of_pos i hp
  have m2:=Int.fmod_lt_of_pos i hp
  lia
theorem z8y {k:Int}:decide ((if k < 0 then -k else k)≤(10 ^ (18:Int).toNat:Int))= !big k:=by
 have e:(10 ^ (18:Int).toNat:Int)=1000000000000000000:=by decide
 rw [e]
 unfold big
 by_cases h:k < 0
 ·rw [kq h]
  by_cases z:1000000000000000000 < k.natAbs
  ·rw [kf z,ke (by lia)];rfl
  ·rw [ke z,kf (by lia)];rfl
 ·rw [ko h]
  by_cases z:1000000000000000000 < k.natAbs
  ·rw [kf z,ke (by lia)];rfl
  ·rw [ke z,kf (by lia)];rfl
noncomputable def z1b (k:Nat):Stmt:=(zV (top 99)).getD k (.Pass ⟨0,0,0,0⟩)
noncomputable abbrev N119:List Str:=["_law_op","_law_one","_law_other","_law_found"]
theorem sc99:zn N119 ["_law_op","_law_one","_law_other"] (ze (top 99)):=fsM
noncomputable def z3E:List Str:=["add","sub","mul","div","rest","less"]
theorem z49 {op:Str} {i j:Int} (h0:op≠"same") (hs:Sm i j):jz op (.int i) (.int j)=if (op="div"∨op="rest")∧j=0 then some (.str "Zero",.non) else z24 op i j:=by
 unfold jz z24
 rw [ko h0]
 dsimp only
 rw [hs.1,hs.2,ko ka,ko ka]
noncomputable def bigR (k:Int):V × V:=if big k=true then (.str "Big",.non) else (.non,.int k)
def z9L:TS:=fun D σ H=>∃(x0 x1 x2:Option V) (k:Int),σ=[x0,x1,x2,some (.int k)]∧∀t H',Same H H'→H' t=some (.tup (tagV (bigR k).1 (bigR k).2))→D.rt (.ref t) H'
def T119:TS:=fun D σ H=>∃(op:Str) (i j:Int) (r1 r2:V),σ=[some (.str op),some (.int i),some (.int j),none]∧Sm i j∧op∈z3E∧jz op (.int i) (.int j)=some (r1,r2)∧∀t H',Same H H'→H' t=some (.tup (tagV r1 r2))→D.rt (.ref t) H'
section
section
variable {f:Addr} {cdv:Value} {A:Around} {outer:List Env} {s:Shared} {H0:Hp} {E:XK}
theorem z9p (G:Glo mg):PSs (cxOf CX0 P w K mg base N119 "_law_pair" (ze (top 99)) f cdv A outer s H0 E).nox [z1b 7] z9L:=by
 refine PSs.imp (zd (zm (j6 (zk z0q (zw z02 rfl G.abs z03 (z6 (pv 3) z7)) (zG z0o zc zc) (zo _)) (zF (z6 zf (z6 (pv 3) z7))) (zF (z6 zf (z6 zf z7)))))) ?_
 rintro D σ H ⟨x0,x1,x2,k,rfl,q⟩
 refine ⟨_,rfl,k,rfl,_,_,rfl,rfl,⟨by decide,by decide,by decide⟩,_,_,rfl,rfl,!big k,congrArg V.bl z8y,?_⟩
 unfold bigR at q
 cases b:big k with
 | true=>
  rw [b,kq rfl] at q
  exact iteF ⟨by show 2≤sizeLine;decide,fun t ht=>q t _ (zg ht _) zb⟩
 | false=>
  rw [b,ko ka] at q
  exact iteT ⟨_,rfl,by show 2≤sizeLine;decide,fun t ht=>q t _ (zg ht _) zb⟩
theorem z9q (G:Glo mg):PSs (cxOf CX0 P w K mg base N119 "_law_pair" (ze (top 99)) f cdv A outer s H0 E).nox [z1b 2,z1b 3,z1b 4,z1b 5,z1b 6,z1b 7] T119:=by
 refine PSs.imp (z8 (zH (zk qe (pv 0) zf (zo _)) (zd (zm (zF (z6 zf (z6 (zU Q2 (pv 1) (pv 2) (zo _)) z7))))) zu)
  (z8 (zH (PW.pt (js (zk qB (pv 0) (zF (z6 zf (z6 zf z7))) rfl) (qX (zk qe (pv 2) zc (zo _))))) (zd (zm (zF (z6 zf (z6 zf z7))))) zu)
  (z8 (zH (zk qe (pv 0) zf (zo _)) (zd (zm (zF (z6 zf (z6 (zG z21 (pv 1) (pv 2)) z7))))) zu)
  (z8 (zH (zk qe (pv 0) zf (zo _)) (zd (zm (zF (z6 zf (z6 (zG z3Z (pv 1) (pv 2)) z7))))) zu)
  (z8 (zI (i:=3) sc99.nd rfl (Or.inl rfl) (j6 (zk qe (pv 0) zf (zo _)) (zG j9 (pv 1) (pv 2)) (j6 (zk qe (pv 0) zf (zo _)) (zG qo (pv 1) (pv 2)) (zG Jp (pv 1) (pv 2)))))
  (z9p G)))))) ?_
 rintro D σ H ⟨op,i,j,r1,r2,rfl,hs,hop,hm,q⟩
 have h0:op≠"same":=fun z=>by rw [z] at hop;revert hop;decide+kernel
 rw [z49 h0 hs] at hm
 unfold z3E at hop
 simp only [kw,kl,or_false] at hop
 have big2:∀{k:Int},(if big k=true then some ((V.str "Big",V.non):V × V) else some (.non,.int k))=some (r1,r2)→(bigR k).1=r1∧(bigR k).2=r2:=fun {k} h=>by
  unfold bigR
  cases b:big k with
  | true=>rw [b,kq rfl] at h;cases h;exact ⟨rfl,rfl⟩
  | false=>rw [b,ko ka] at h;cases h;exact ⟨rfl,rfl⟩
 have nodiv:¬(op="div"∨op="rest")→¬((op="div"∨op="rest")∧j=0):=fun z y=>z y.1
 rcases hop with h | h | h | h | h | h
 all_goals subst h
 ·rw [ko (nodiv (by trivial))] at hm
  obtain ⟨e1,e2⟩:=big2 (k:=i+j) hm
  refine ⟨_,rfl,rfl,false,rfl,iteF ⟨_,rfl,by show 2≤sizeLine;decide,fun p hp=>⟨p,_,rfl,.inr (SqT.of zb),rfl,rfl,false,rfl,iteF (iteF ?_)⟩⟩⟩
  have s1:=zg hp (.tup [.str "div",.str "rest"])
  refine ⟨_,rfl,rfl,false,rfl,iteF ⟨_,rfl,rfl,false,rfl,iteF ⟨_,rfl,rfl,true,rfl,iteT ⟨_,rfl,_,rfl,_,_,rfl,rfl,?_⟩⟩⟩⟩
  exact ⟨_,_,_,i+j,rfl,fun t H' s' ht=>q t H' (s1.trans s') (by rw [←e1,←e2];exact ht)⟩
 ·rw [ko (nodiv (by trivial))] at hm
  obtain ⟨e1,e2⟩:=big2 (k:=i - j) hm
  refine ⟨_,rfl,rfl,false,rfl,iteF ⟨_,rfl,by show 2≤sizeLine;decide,fun p hp=>⟨p,_,rfl,.inr (SqT.of zb),rfl,rfl,false,rfl,iteF (iteF ?_)⟩⟩⟩
  have s1:=zg hp (.tup [.str "div",.str "rest"])
  refine ⟨_,rfl,rfl,false,rfl,iteF ⟨_,rfl,rfl,false,rfl,iteF ⟨_,rfl,rfl,false,rfl,iteF ⟨_,rfl,rfl,true,rfl,iteT ⟨_,rfl,_,rfl,_,_,rfl,rfl,?_⟩⟩⟩⟩⟩
  exact ⟨_,_,_,i - j,rfl,fun t H' s' ht=>q t H' (s1.trans s') (by rw [←e1,←e2];exact ht)⟩
 ·rw [ko (nodiv (by trivial))] at hm
  obtain ⟨e1,e2⟩:=big2 (k:=i * j) hm
  refine ⟨_,rfl,rfl,false,rfl,iteF ⟨_,rfl,by show 2≤sizeLine;decide,fun p hp=>⟨p,_,rfl,.inr (SqT.of zb),rfl,rfl,false,rfl,iteF (iteF ?_)⟩⟩⟩
  have s1:=zg hp (.tup [.str "div",.str "rest"])
  refine ⟨_,rfl,rfl,false,rfl,iteF ⟨_,rfl,rfl,false,rfl,iteF ⟨_,rfl,rfl,false,rfl,iteF ⟨_,rfl,rfl,false,rfl,iteF ⟨_,rfl,_,rfl,_,_,rfl,rfl,z0e hs.1,?_⟩⟩⟩⟩⟩
  exact ⟨_,_,_,i * j,rfl,fun t H' s' ht=>q t H' (s1.trans s') (by rw [←e1,←e2];exact ht)⟩
 ·refine ⟨_,rfl,rfl,false,rfl,iteF ⟨_,rfl,by show 2≤sizeLine;decide,fun p hp=>⟨p,_,rfl,.inr (SqT.of zb),rfl,rfl,true,rfl,iteT ?_⟩⟩⟩
  have s1:=zg hp (.tup [.str "div",.str "rest"])
  obtain ⟨z,hz⟩:∃z,decide (V.int j=V.int 0)=z:=⟨_,rfl⟩
  refine ⟨_,rfl,rfl,z,congrArg V.bl hz,?_⟩
  cases z with
  | true=>
   have hj:j=0:=by have:=ku hz;injection this
   rw [kq ⟨.inl rfl,hj⟩] at hm
   cases hm
   exact iteT ⟨by show 2≤sizeLine;decide,fun t ht=>q t _ (s1.trans (zg ht _)) zb⟩
  | false=>
   have hj:¬j=0:=fun z=>by rw [z] at hz;cases hz
   rw [ko (fun z=>hj z.2)] at hm
   have hm:(match (if j=0 then none else some (i.fdiv j)) with | some k=>if big k=true then some ((V.str "Big",V.non):V × V) else some (.non,.int k) | none=>none)=some (r1,r2):=hm
   rw [ko hj] at hm
   dsimp only at hm
   rw [z6f hs.1 hj,ko ka] at hm
   cases hm
   exact iteF ⟨_,rfl,rfl,true,rfl,iteT ⟨_,rfl,_,rfl,_,_,rfl,rfl,⟨hj,z0A hs.2⟩,by show 2≤sizeLine;decide,fun t ht=>q t _ (s1.trans (zg ht _)) zb⟩⟩
 ·refine ⟨_,rfl,rfl,false,rfl,iteF ⟨_,rfl,by show 2≤sizeLine;decide,fun p hp=>⟨p,_,rfl,.inr (SqT.of zb),rfl,rfl,true,rfl,iteT ?_⟩⟩⟩
  have s1:=zg hp (.tup [.str "div",.str "rest"])
  obtain ⟨z,hz⟩:∃z,decide (V.int j=V.int 0)=z:=⟨_,rfl⟩
  refine ⟨_,rfl,rfl,z,congrArg V.bl hz,?_⟩
  cases z with
  | true=>
   have hj:j=0:=by have:=ku hz;injection this
   rw [kq ⟨.inr rfl,hj⟩] at hm
   cases hm
   exact iteT ⟨by show 2≤sizeLine;decide,fun t ht=>q t _ (s1.trans (zg ht _)) zb⟩
  | false=>
   have hj:¬j=0:=fun z=>by rw [z] at hz;cases hz
   rw [ko (fun z=>hj z.2)] at hm
   have hm:(match (if j=0 then none else some (i.fmod j)) with | some k=>if big k=true then some ((V.str "Big",V.non):V × V) else some (.non,.int k) | none=>none)=some (r1,r2):=hm
   rw [ko hj] at hm
   dsimp only at hm
   rw [z6e hs.2 hj,ko ka] at hm
   cases hm
   exact iteF ⟨_,rfl,rfl,false,rfl,iteF ⟨_,rfl,rfl,true,rfl,iteT ⟨_,rfl,_,rfl,_,_,rfl,rfl,hj,by show 2≤sizeLine;decide,fun t ht=>q t _ (s1.trans (zg ht _)) zb⟩⟩⟩
 ·rw [ko (nodiv (by trivial))] at hm
  cases hm
  exact ⟨_,rfl,rfl,true,rfl,iteT ⟨_,rfl,_,rfl,_,_,rfl,rfl,by show 2≤sizeLine;decide,fun t ht=>q t _ (zg ht _) zb⟩⟩
end
end
section
noncomputable def Zl:List Str:=["add","sub","mul","div","rest","less","same"]
def z3t:Sp:=fun vs H Q _=>∃op x y r1 r2,vs=[.str op,x,y]∧Scal x∧Scal y∧op∈Zl∧jz op x y=some (r1,r2)∧∀t H',Same H H'→H' t=some (.tup (tagV r1 r2))→Q (.ref t) H'
theorem z7s (D:zt K mg "_law_pair" (top 99)) (G:Glo mg) (FW:FN P w K mg base 1 "_law_whole" ["_law_thing"] (sp1 jb)):FN P w K mg base 2 "_law_pair" ["_law_op","_law_one","_law_other"] z3t:=by
 refine FN.o D sc99 fun f cdv A outer s H vs Q E hr h=>?_
 obtain ⟨op,x,y,r1,r2,rfl,hx,hy,hop,hm,q⟩:=h
 refine ⟨_,z8 (zH (zk qe (pv 0) zf (zo _)) (zd (zm (zF (z6 zf (z6 (jh (zU qe (zw qd rfl G.isinstance zE (z6 (pv 1) (z6 (Q0 "bool" rfl G.bool jd) z7))) (zw qd rfl G.isinstance zE (z6 (pv 2) (z6 (Q0 "bool" rfl G.bool jd) z7))) (zo _))
   (j8 (zU qe (pv 1) (pv 2) (zo _)))) z7))))) zu)
  (z8 (zH (PW.pt (Zq (jt (qz (zp FW hr rfl (z6 (pv 1) z7)))) (jr (jt (qz (zp FW hr rfl (z6 (pv 2) z7))))))) (zd (zm (zF (z6 zf (z6 zf z7))))) zu)
  (z9q G)),?_⟩
 refine ⟨_,rfl,rfl,decide (op="same"),congrArg V.bl qP,?_⟩
 by_cases h0:op="same"
 ·unfold jz at hm
  rw [kq h0] at hm
  cases hm
  rw [kf h0]
  obtain ⟨t1,ty1,k1⟩:=jv (K:=K) (H:=H) hx
  obtain ⟨t2,ty2,k2⟩:=jv (K:=K) (H:=H) hy
  refine iteT ⟨_,rfl,_,"bool",t1,_,rfl,ty1,k1,_,rfl,_,"bool",t2,_,rfl,ty2,k2,rfl,isB x == isB y,congrArg V.bl Ju,?_⟩
  have q':∀t H',Same H H'→H' t=some (.tup [.str "value",.bl (z3I x y)])→Q (.ref t) H':=q
  unfold z3I at q'
  cases e:isB x == isB y with
  | true=>
   rw [e,Bool.true_and] at q'
   exact iteT ⟨_,rfl,_,rfl,z0i hx hy (eq_of_beq e),by show 2≤sizeLine;decide,fun t ht=>q' t _ (zg ht _) zb⟩
  | false=>
   rw [e,Bool.false_and] at q'
   exact iteF ⟨by show 2≤sizeLine;decide,fun t ht=>q' t _ (zg ht _) zb⟩
 rw [ke h0]
 refine iteF ⟨_,rfl,x,rfl,hx,jb x,rfl,?_⟩
 have typ:jz op x y=some (.str "Type",.non)→∀σ,tTup (qV (tC (.str "kind")) (qV (tC (.str "Type")) tNil)) σ H Q:=fun e σ=>by
  rw [hm] at e
  cases e
  exact ⟨by show 2≤sizeLine;decide,fun t ht=>q t _ (zg ht _) zb⟩
 cases hnx:jb x with
 | false=>exact iteT (iteT (typ (Ze h0 (.inl hnx)) _))
 | true=>
  refine iteF ⟨_,rfl,y,rfl,hy,jb y,rfl,?_⟩
  cases hny:jb y with
  | false=>exact iteT (typ (Ze h0 (.inr hny)) _)
  | true=>
   refine iteF ?_
   clear typ
   cases hx with
   | int i=>
    cases hy with
    | int j=>
     have hs:Sm i j:=by
      unfold jz at hm
      rw [ko h0] at hm
      dsimp only at hm
      cases b1:big i with
      | true=>rw [b1,kq rfl] at hm;cases hm
      | false=>
       rw [b1,ko ka] at hm
       cases b2:big j with
       | true=>rw [b2,kq rfl] at hm;cases hm
       | false=>exact ⟨b1,b2⟩
     have h6:op∈z3E:=by
      unfold Zl at hop
      simp only [kw,kl,or_false] at hop
      rcases hop with h | h | h | h | h | h | h
      ·rw [h];decide+kernel
      ·rw [h];decide+kernel
      ·rw [h];decide+kernel
      ·rw [h];decide+kernel
      ·rw [h];decide+kernel
      ·rw [h];decide+kernel
      ·exact absurd h h0
     exact ⟨op,i,j,r1,r2,rfl,hs,h6,hm,q⟩
    | _=>cases hny
   | _=>cases hnx
end
set_option maxHeartbeats 8000000
noncomputable def jA (rs:List Row) (at_:Nat):Option (Option (Nat × List Row)):=if 1≤at_ then (match rs[at_ - 1]? with
 | some x=>some (if inT x.op ["push","copy","quick"]=true then some (2,[]) else none)
 | none=>none) else some none
noncomputable def oneM (rs:List Row) (at_:Nat):Option (Option (Nat × List Row)):=if zX rs at_ 1=true then (match rs[at_]?,rs[at_ - 1]? with
 | some r,some x=>if jH x.arg=true then (match J0 r.op x.arg with
  | some (r1,r2)=>if jH r2=true then some (Qm 2 r1 r2 r.line) else none
  | none=>none) else none
 | _,_=>none) else some none
noncomputable def jK (rs:List Row) (at_:Nat):Option (Option (Nat × List Row)):=match rs[at_]? with
 | some r=>(match r.arg with
  | .int n=>if n=1 then (if zX rs at_ 1=true then (match rs[at_ - 1]? with
   | some x=>some (some (2,[x,⟨"push",x.arg,r.line⟩]))
   | none=>none) else some none) else some none
  | _=>none)
 | none=>none
noncomputable def jy (rs:List Row) (at_:Nat):Option (Option (Nat × List Row)):=match rs[at_]? with
 | some r=>(match r.arg with
  | .int n=>if n=2 then (if zX rs at_ 2=true then (match rs[at_ - 1]?,rs[at_ - 2]? with
   | some y,some x=>some (some (3,[y,x]))
   | _,_=>none) else some none) else some none
  | _=>none)
 | none=>none
theorem qa {rs:List Row} {at_ n:Nat} (h:zX rs at_ n=true):n≤at_:=by
 unfold zX at h
 rw [kX,kY] at h
 exact h.1
section
theorem sc70:zn ["rows","at"] ["rows","at"] (ze (top 70)):=fsM
theorem z1C (D:zt K mg "fold_drop" (top 70)):FN P w K mg base 6 "fold_drop" ["rows","at"] (qW jA):=by
 refine (FN.of (k:=5) D sc70 (fun _ _ _ _ _ _=>zU2 fun _ _=>rfl) qQ (fun f cdv A outer s H vs Q E hr h=>?_):FN P w K mg base 6 "fold_drop" ["rows","at"] (qW jA))
 obtain ⟨l,as,rs,at_,res,rfl,hl,hR,hn,ha,hg,q⟩:=h
 refine ⟨_,z8 (zH (PW.pt (js (zk z5s (pv 1) zc (zo _)) (qX (zk qB (zx zS (zx zr (pv 0) (zG qo (pv 1) zc) (fun _ _=>rfl)) zc (fun _ _=>rfl)) (zF (z6 zf (z6 zf (z6 zf z7)))) rfl))))
   (zd (zm (zF (z6 zc (z6 (zO z7) z7))))) zu)
  (zd (zm qc)),?_⟩
 unfold jA at hg
 by_cases h1:1≤at_
 case neg=>
  rw [ko h1] at hg
  cases hg
  exact ⟨_,rfl,_,_,rfl,rfl,false,congrArg V.bl (ke (by lia)),iteF (iteF (q H (Same.refl _)))⟩
 rw [kq h1] at hg
 cases e1:rs[at_ - 1]? with
 | none=>rw [e1] at hg;cases hg
 | some x=>
  rw [e1] at hg
  cases hg
  obtain ⟨a1,f1,g1⟩:=hR.get' e1
  have c1:(at_:Int) - 1=((at_ - 1:Nat):Int):=by lia
  refine ⟨_,rfl,_,_,rfl,rfl,true,congrArg V.bl (kf (by lia)),iteT ?_⟩
  refine ⟨_,rfl,_,rfl,_,_,rfl,rfl,l,_,_,_,rfl,rfl,SqL.of hl,(by rw [c1];exact zi f1),a1,_,_,_,rfl,rfl,SqT.of g1,zi (j:=0) rfl,by show 3≤sizeLine;decide,fun t ht=>?_⟩
  have s3:=zg ht (.tup [.str "push",.str "copy",.str "quick"])
  refine ⟨t,_,rfl,.inr (SqT.of zb),rfl,rfl,inT x.op ["push","copy","quick"],rfl,?_⟩
  have q1:=q.mono s3
  generalize upd H t (.tup [.str "push",.str "copy",.str "quick"])=H3 at *
  cases hi:inT x.op ["push","copy","quick"] with
  | true=>
   rw [hi,kq rfl] at q1
   refine iteT ⟨by show 0≤sizeLine;decide,fun l2 hl2=>⟨by show 2≤sizeLine;decide,fun t2 ht2=>?_⟩⟩
   have u1:=zg hl2 (.lst [])
   have u2:=zg ht2 (.tup [.int 2,.ref l2])
   exact q1 t2 l2 [] _ (u1.trans u2) zb (u2 _ _ zb) .nil
  | false=>
   rw [hi,ko ka] at q1
   exact iteF (q1 H3 (Same.refl _))
theorem sc72:zn ["rows","at","op","line"] ["rows","at"] (ze (top 72)):=fsM
theorem z2Y (D:zt K mg "fold_one" (top 72)) (FA:FN P w K mg base 2 "pushes_ahead" ["rows","at","many"] Zp) (FM:FN P w K mg base 2 "made_of_one" ["op","value"] z3v) (FI:FN P w K mg base 5 "pushed_instead" ["many","made","line"] z3x):FN P w K mg base 6 "fold_one" ["rows","at"] (qW oneM):=by
 refine FN.of D sc72 (fun _ _ _ _ _ _=>zU2 fun _ _=>rfl) qQ (fun f cdv A outer s H vs Q E hr h=>?_)
 obtain ⟨l,as,rs,at_,res,rfl,hl,hR,hn,ha,hg,q⟩:=h
 have hr2:=hr.mono (show 2≤5 by decide)
 refine ⟨_,z8 (zH (jt (qz (zp FA hr2 rfl (z6 (pv 0) (z6 (pv 1) (z6 zc z7)))))) (zd (zm qc)) zu)
  (z8 (Qc (i:=2) (j:=3) rfl sc72.nd rfl rfl (by decide) rfl rfl (z6 (zx zS (zx zr (pv 0) (pv 1) (fun _ _=>rfl)) zc (fun _ _=>rfl)) (z6 (zx zS (zx zr (pv 0) (pv 1) (fun _ _=>rfl)) zc (fun _ _=>rfl)) z7)) rfl)
  (zd (zm (zp FI hr rfl (z6 zc (z6 (zp FM hr2 rfl (z6 (pv 2) (z6 (zx zS (zx zr (pv 0) (zG qo (pv 1) zc) (fun _ _=>rfl)) zc (fun _ _=>rfl)) z7))) (z6 (pv 3) z7))))))),?_⟩
 refine ⟨_,rfl,_,rfl,l,as,rs,at_,1,rfl,hl,hR,hn,by lia,fun H1 s1=>⟨zX rs at_ 1,rfl,?_⟩⟩
 unfold oneM at hg
 cases hh:zX rs at_ 1 with
 | false=>
  rw [hh,ko ka] at hg
  cases hg
  exact iteT (q H1 s1)
 | true=>
  rw [hh,kq rfl] at hg
  have h1:=qa hh
  have q1:=q.mono s1
  have hl1:=s1 _ _ hl
  have hR1:=hR.same s1
  cases e0:rs[at_]? with
  | none=>rw [e0] at hg;cases hg
  | some r=>
   cases e1:rs[at_ - 1]? with
   | none=>rw [e0,e1] at hg;cases hg
   | some x=>
    rw [e0,e1] at hg
    dsimp only at hg
    by_cases hz:jH x.arg=true
    case neg=>rw [ko hz] at hg;cases hg
    rw [kq hz] at hg
    cases hm:J0 r.op x.arg with
    | none=>rw [hm] at hg;cases hg
    | some rr=>
     obtain ⟨r1,r2⟩:=rr
     rw [hm] at hg
     dsimp only at hg
     by_cases hs:jH r2=true
     case neg=>rw [ko hs] at hg;cases hg
     rw [kq hs] at hg
     cases hg
     obtain ⟨a0,f0,g0⟩:=hR1.get' e0
     obtain ⟨a1,f1,g1⟩:=hR1.get' e1
     have c1:(at_:Int) - 1=((at_ - 1:Nat):Int):=by lia
     refine iteF ?_
     refine ⟨_,rfl,_,rfl,l,_,_,_,rfl,rfl,SqL.of hl1,zi f0,a0,_,_,_,rfl,rfl,SqT.of g0,zi (j:=0) rfl,_,rfl,_,rfl,l,_,_,_,rfl,rfl,SqL.of hl1,zi f0,a0,_,_,_,rfl,rfl,SqT.of g0,zi (j:=2) rfl,_,_,rfl,?_⟩
     refine ⟨_,rfl,_,rfl,_,rfl,_,_,rfl,rfl,l,_,_,_,rfl,rfl,SqL.of hl1,(by rw [c1];exact zi f1),a1,_,_,_,rfl,rfl,SqT.of g1,zi (j:=1) rfl,?_⟩
     exact ⟨r.op,x.arg,r1,r2,rfl,jp hz,hm,fun t H2 s2 ht=>⟨_,rfl,2,t,r1,r2,r.line,rfl,ht,jp hs,q1.mono s2⟩⟩
theorem sc74:zn ["rows","at","pushed"] ["rows","at"] (ze (top 74)):=fsM
theorem z1D (D:zt K mg "fold_copy" (top 74)) (FA:FN P w K mg base 2 "pushes_ahead" ["rows","at","many"] Zp):FN P w K mg base 6 "fold_copy" ["rows","at"] (qW jK):=by
 refine FN.of D sc74 (fun _ _ _ _ _ _=>zU2 fun _ _=>rfl) qQ (fun f cdv A outer s H vs Q E hr h=>?_)
 obtain ⟨l,as,rs,at_,res,rfl,hl,hR,hn,ha,hg,q⟩:=h
 have hr2:=hr.mono (show 2≤5 by decide)
 refine ⟨_,z8 (zH (PW.pt (Zq (zk z0p (zx zS (zx zr (pv 0) (pv 1) (fun _ _=>rfl)) zc (fun _ _=>rfl)) zc (zo _)) (jr (jt (qz (zp FA hr2 rfl (z6 (pv 0) (z6 (pv 1) (z6 zc z7))))))))) (zd (zm qc)) zu)
  (z8 (zI (i:=2) sc74.nd rfl (Or.inl rfl) (zx zr (pv 0) (zG qo (pv 1) zc) (fun _ _=>rfl)))
  (zd (zm (zF (z6 zc (z6 (zO (z6 (pv 2) (z6 (zF (z6 zf (z6 (zx zS (pv 2) zc (fun _ _=>rfl)) (z6 (zx zS (zx zr (pv 0) (pv 1) (fun _ _=>rfl)) zc (fun _ _=>rfl)) z7)))) z7))) z7)))))),?_⟩
 unfold jK at hg
 cases e0:rs[at_]? with
 | none=>rw [e0] at hg;cases hg
 | some r=>
  rw [e0] at hg
  dsimp only at hg
  obtain ⟨a0,f0,g0⟩:=hR.get' e0
  cases hv:r.arg with
  | int n=>
   rw [hv] at hg
   dsimp only at hg
   have g0':H a0=some (.tup [.str r.op,.int n,.int r.line]):=by rw [←hv];exact g0
   refine ⟨_,rfl,_,rfl,l,_,_,_,rfl,rfl,SqL.of hl,zi f0,a0,_,_,_,rfl,rfl,SqT.of g0',zi (j:=1) rfl,rfl,!decide (V.int n=.int 1),rfl,?_⟩
   by_cases hn1:n=1
   case neg=>
    rw [ko hn1] at hg
    cases hg
    rw [ke (fun z=>hn1 (V.int.inj z))]
    exact iteT (iteT (q H (Same.refl _)))
   rw [kq hn1] at hg
   rw [kf (congrArg V.int hn1)]
   refine iteF ⟨_,rfl,_,rfl,l,as,rs,at_,1,rfl,hl,hR,hn,by lia,fun H1 s1=>⟨zX rs at_ 1,rfl,?_⟩⟩
   cases hh:zX rs at_ 1 with
   | false=>
    rw [hh,ko ka] at hg
    cases hg
    exact iteT (q H1 s1)
   | true=>
    rw [hh,kq rfl] at hg
    have h1:=qa hh
    cases e1:rs[at_ - 1]? with
    | none=>rw [e1] at hg;cases hg
    | some x=>
     rw [e1] at hg
     cases hg
     have q1:=q.mono s1
     have hl1:=s1 _ _ hl
     obtain ⟨a1,f1,g1⟩:=(hR.same s1).get' e1
     have g01:=s1 _ _ g0
     have c1:(at_:Int) - 1=((at_ - 1:Nat):Int):=by lia
     refine iteF ⟨_,rfl,_,rfl,_,_,rfl,rfl,l,_,_,_,rfl,rfl,SqL.of hl1,(by rw [c1];exact zi f1),?_⟩
     refine ⟨_,rfl,_,rfl,a1,_,_,_,rfl,rfl,SqT.of g1,zi (j:=1) rfl,_,rfl,_,rfl,l,_,_,_,rfl,rfl,SqL.of hl1,zi f0,a0,_,_,_,rfl,rfl,SqT.of g01,zi (j:=2) rfl,by show 3≤sizeLine;decide,fun b hb=>⟨by show 2≤sizeLine;decide,fun l2 hl2=>⟨by show 2≤sizeLine;decide,fun t ht=>?_⟩⟩⟩
     have u1:=zg hb (.tup [.str "push",x.arg,.int r.line])
     have u2:=zg hl2 (.lst [.ref a1,.ref b])
     have u3:=zg ht (.tup [.int 2,.ref l2])
     have u:=(u1.trans u2).trans u3
     exact q1 t l2 [a1,b] _ u zb (u3 _ _ zb) (.cons (u _ _ g1) (.cons ((u2.trans u3) _ _ zb) .nil))
  | _=>rw [hv] at hg;cases hg
theorem sc75:zn ["rows","at"] ["rows","at"] (ze (top 75)):=fsM
theorem z1B (D:zt K mg "fold_swap" (top 75)) (FA:FN P w K mg base 2 "pushes_ahead" ["rows","at","many"] Zp):FN P w K mg base 6 "fold_swap" ["rows","at"] (qW jy):=by
 refine FN.of D sc75 (fun _ _ _ _ _ _=>zU2 fun _ _=>rfl) qQ (fun f cdv A outer s H vs Q E hr h=>?_)
 obtain ⟨l,as,rs,at_,res,rfl,hl,hR,hn,ha,hg,q⟩:=h
 have hr2:=hr.mono (show 2≤5 by decide)
 refine ⟨_,z8 (zH (PW.pt (Zq (zk z0p (zx zS (zx zr (pv 0) (pv 1) (fun _ _=>rfl)) zc (fun _ _=>rfl)) zc (zo _)) (jr (jt (qz (zp FA hr2 rfl (z6 (pv 0) (z6 (pv 1) (z6 zc z7))))))))) (zd (zm qc)) zu)
  (zd (zm (zF (z6 zc (z6 (zO (z6 (zx zr (pv 0) (zG qo (pv 1) zc) (fun _ _=>rfl)) (z6 (zx zr (pv 0) (zG qo (pv 1) zc) (fun _ _=>rfl)) z7))) z7))))),?_⟩
 unfold jy at hg
 cases e0:rs[at_]? with
 | none=>rw [e0] at hg;cases hg
 | some r=>
  rw [e0] at hg
  dsimp only at hg
  obtain ⟨a0,f0,g0⟩:=hR.get' e0
  cases hv:r.arg with
  | int n=>
   rw [hv] at hg
   dsimp only at hg
   have g0':H a0=some (.tup [.str r.op,.int n,.int r.line]):=by rw [←hv];exact g0
   refine ⟨_,rfl,_,rfl,l,_,_,_,rfl,rfl,SqL.of hl,zi f0,a0,_,_,_,rfl,rfl,SqT.of g0',zi (j:=1) rfl,rfl,!decide (V.int n=.int 2),rfl,?_⟩
   by_cases hn1:n=2
   case neg=>
    rw [ko hn1] at hg
    cases hg
    rw [ke (fun z=>hn1 (V.int.inj z))]
    exact iteT (iteT (q H (Same.refl _)))
   rw [kq hn1] at hg
   rw [kf (congrArg V.int hn1)]
   refine iteF ⟨_,rfl,_,rfl,l,as,rs,at_,2,rfl,hl,hR,hn,by lia,fun H1 s1=>⟨zX rs at_ 2,rfl,?_⟩⟩
   cases hh:zX rs at_ 2 with
   | false=>
    rw [hh,ko ka] at hg
    cases hg
    exact iteT (q H1 s1)
   | true=>
    rw [hh,kq rfl] at hg
    have h1:=qa hh
    cases e1:rs[at_ - 1]? with
    | none=>rw [e1] at hg;cases hg
    | some y=>
     cases e2:rs[at_ - 2]? with
     | none=>rw [e1,e2] at hg;cases hg
     | some x=>
      rw [e1,e2] at hg
      cases hg
      have q1:=q.mono s1
      have hl1:=s1 _ _ hl
      obtain ⟨a1,f1,g1⟩:=(hR.same s1).get' e1
      obtain ⟨a2,f2,g2⟩:=(hR.same s1).get' e2
      have c1:(at_:Int) - 1=((at_ - 1:Nat):Int):=by lia
      have c2:(at_:Int) - 2=((at_ - 2:Nat):Int):=by lia
      refine iteF ⟨_,rfl,_,rfl,_,_,rfl,rfl,l,_,_,_,rfl,rfl,SqL.of hl1,(by rw [c1];exact zi f1),_,rfl,_,rfl,_,_,rfl,rfl,l,_,_,_,rfl,rfl,SqL.of hl1,(by rw [c2];exact zi f2),by show 2≤sizeLine;decide,fun l2 hl2=>⟨by show 2≤sizeLine;decide,fun t ht=>?_⟩⟩
      have u1:=zg hl2 (.lst [.ref a1,.ref a2])
      have u2:=zg ht (.tup [.int 3,.ref l2])
      exact q1 t l2 [a1,a2] _ (u1.trans u2) zb (u2 _ _ zb) (.cons ((u1.trans u2) _ _ g1) (.cons ((u1.trans u2) _ _ g2) .nil))
  | _=>rw [hv] at hg;cases hg
end
set_option maxHeartbeats 4000000
noncomputable def jC (op:Str):Str:=if op="iftrue" then "iffalse" else "iftrue"
noncomputable def wayT:List (Str × V):=[("iftrue",.str "iffalse"),("iffalse",.str "iftrue")]
noncomputable def ifA (rs:List Row) (at_:Nat):Option (Option (Nat × List Row)):=match rs[at_]? with
 | some r=>if 1≤at_ then (match rs[at_ - 1]? with
  | some x=>if x.op="not" then (if wayT.lookup r.op=some (.str (jC r.op)) then some (some (2,[⟨jC r.op,r.arg,r.line⟩])) else none) else if zX rs at_ 1=true then (if jH x.arg=true then some (some (2,if z07 x.arg=decide (r.op="iftrue") then [⟨"jump",r.arg,r.line⟩] else [])) else none) else some none
  | none=>none) else some none
 | none=>none
theorem z6H {rs:List Row} {at_ n:Nat} (h:at_ < n):zX rs at_ n=false:=by
 unfold zX
 rw [ke (by lia),Bool.false_and]
noncomputable def orA (rs:List Row) (at_:Nat):Option (Option (Nat × List Row)):=match rs[at_]? with
 | some r=>if 1≤at_ then (match rs[at_ - 1]? with
  | some x=>if zX rs at_ 1=true then (if jH x.arg=true then some (some (2,if z07 x.arg=decide (r.op="ortrue") then [x,⟨"jump",r.arg,r.line⟩] else [])) else none) else some none
  | none=>none) else some none
 | none=>none
structure WayT (w:World) (K:kn) (mg:Str→Option Value):Prop where
 way:∃d:Addr,mg "OTHER_WAY"=some (.ref d)∧KTab w.params K d wayT
section
theorem z5b:zn ["rows","at","op","mark","line"] ["rows","at"] (ze (top 76)):=fsM
theorem z2Z (T:WayT w K mg) (D:zt K mg "fold_if" (top 76)) (FA:FN P w K mg base 2 "pushes_ahead" ["rows","at","many"] Zp) (FT:FN P w K mg base 1 "is_true" ["value"] z1P):FN P w K mg base 6 "fold_if" ["rows","at"] (qW ifA):=by
 refine FN.of D z5b (fun _ _ _ _ _ _=>zU2 fun _ _=>rfl) qQ (fun f cdv A outer s H vs Q E hr h=>?_)
 obtain ⟨l,as,rs,at_,res,rfl,hl,hR,hn,ha,hg,q⟩:=h
 obtain ⟨d,md,td⟩:=T.way
 have hr1:=hr.mono (show 1≤5 by decide)
 have hr2:=hr.mono (show 2≤5 by decide)
 refine ⟨_,z8 (jW (zx zr (pv 0) (pv 1) (fun _ _=>rfl)) (jX rfl (zD (zB (i:=2) z5b.nd rfl (Or.inl rfl)) (zD (zB (i:=3) z5b.nd rfl (Or.inl rfl)) (zD (zB (i:=4) z5b.nd rfl (Or.inl rfl)) qY)))))
  (z8 (zH (PW.pt (js (zk z5s (pv 1) zc (zo _)) (qX (zk qe (zx zS (zx zr (pv 0) (zG qo (pv 1) zc) (fun _ _=>rfl)) zc (fun _ _=>rfl)) zf (zo _))))) (zd (zm (zF (z6 zc (z6 (zO (z6 (zF (z6 (QT td rfl md (pv 2) (fun _ _=>rfl)) (z6 (pv 3) (z6 (pv 4) z7)))) z7)) z7))))) zu)
  (z8 (zH (jt (qz (zp FA hr2 rfl (z6 (pv 0) (z6 (pv 1) (z6 zc z7)))))) (zd (zm qc)) zu)
  (z8 (zH (zk qe (zp FT hr1 rfl (z6 (zx zS (zx zr (pv 0) (zG qo (pv 1) zc) (fun _ _=>rfl)) zc (fun _ _=>rfl)) z7)) (zU qe (pv 2) zf (zo _)) (zo _)) (zd (zm (zF (z6 zc (z6 (zO (z6 (zF (z6 zf (z6 (pv 3) (z6 (pv 4) z7)))) z7)) z7))))) zu)
  (zd (zm (zF (z6 zc (z6 (zO z7) z7)))))))),?_⟩
 unfold ifA at hg
 cases e0:rs[at_]? with
 | none=>rw [e0] at hg;cases hg
 | some r=>
  rw [e0] at hg
  dsimp only at hg
  obtain ⟨a0,f0,g0⟩:=hR.get' e0
  refine ⟨_,rfl,_,rfl,l,_,_,_,rfl,rfl,SqL.of hl,zi f0,a0,_,rfl,SqT.of g0,rfl,_,_,rfl,_,_,rfl,_,_,rfl,rfl,?_⟩
  by_cases h1:1≤at_
  case neg=>
   rw [ko h1] at hg
   cases hg
   refine ⟨_,rfl,_,_,rfl,rfl,false,congrArg V.bl (ke (by lia)),iteF (iteF ?_)⟩
   refine ⟨_,rfl,_,rfl,l,as,rs,at_,1,rfl,hl,hR,hn,by lia,fun H1 s1=>⟨zX rs at_ 1,rfl,?_⟩⟩
   rw [z6H (by lia)]
   exact iteT (q H1 s1)
  rw [kq h1] at hg
  cases e1:rs[at_ - 1]? with
  | none=>rw [e1] at hg;cases hg
  | some x=>
   rw [e1] at hg
   dsimp only at hg
   obtain ⟨a1,f1,g1⟩:=hR.get' e1
   have c1:(at_:Int) - 1=((at_ - 1:Nat):Int):=by lia
   refine ⟨_,rfl,_,_,rfl,rfl,true,congrArg V.bl (kf (by lia)),iteT ?_⟩
   by_cases hnot:x.op="not"
   case pos=>
    rw [kq hnot] at hg
    refine ⟨_,rfl,_,rfl,_,_,rfl,rfl,l,_,_,_,rfl,rfl,SqL.of hl,(by rw [c1];exact zi f1),a1,_,_,_,rfl,rfl,SqT.of g1,zi (j:=0) rfl,rfl,true,(congrArg V.bl qP).trans (by rw [kf hnot]),iteT ?_⟩
    by_cases hw:wayT.lookup r.op=some (.str (jC r.op))
    case neg=>rw [ko hw] at hg;cases hg
    rw [kq hw] at hg
    cases hg
    refine ⟨_,rfl,r.op,_,rfl,hw,_,rfl,_,rfl,by show 3≤sizeLine;decide,fun b hb=>⟨by show 1≤sizeLine;decide,fun l2 h2=>⟨by show 2≤sizeLine;decide,fun t ht=>?_⟩⟩⟩
    have u1:=zg hb (.tup [.str (jC r.op),r.arg,.int r.line])
    have u2:=zg h2 (.lst [.ref b])
    have u3:=zg ht (.tup [.int 2,.ref l2])
    exact q t l2 [b] _ ((u1.trans u2).trans u3) zb (u3 _ _ zb) (.cons ((u2.trans u3) _ _ zb) .nil)
   rw [ko hnot] at hg
   refine ⟨_,rfl,_,rfl,_,_,rfl,rfl,l,_,_,_,rfl,rfl,SqL.of hl,(by rw [c1];exact zi f1),a1,_,_,_,rfl,rfl,SqT.of g1,zi (j:=0) rfl,rfl,false,(congrArg V.bl qP).trans (by rw [ke hnot]),iteF ?_⟩
   refine ⟨_,rfl,_,rfl,l,as,rs,at_,1,rfl,hl,hR,hn,by lia,fun H1 s1=>⟨zX rs at_ 1,rfl,?_⟩⟩
   cases hh:zX rs at_ 1 with
   | false=>
    rw [hh,ko ka] at hg
    cases hg
    exact iteT (q H1 s1)
   | true=>
    rw [hh,kq rfl] at hg
    by_cases hz:jH x.arg=true
    case neg=>rw [ko hz] at hg;cases hg
    rw [kq hz] at hg
    cases hg
    have q1:=q.mono s1
    have hl1:=s1 _ _ hl
    have g1':=s1 _ _ g1
    refine iteF ⟨_,rfl,_,rfl,_,_,rfl,rfl,l,_,_,_,rfl,rfl,SqL.of hl1,(by rw [c1];exact zi f1),a1,_,_,_,rfl,rfl,SqT.of g1',zi (j:=1) rfl,x.arg,rfl,jp hz,_,rfl,rfl,rfl,_,rfl,?_⟩
    rw [qP,Ju]
    refine ite2 (fun e=>?_) (fun e=>?_)
    ·rw [kq (eq_of_beq e)] at q1
     refine ⟨_,rfl,_,rfl,by show 3≤sizeLine;decide,fun b hb=>⟨by show 1≤sizeLine;decide,fun l2 h2=>⟨by show 2≤sizeLine;decide,fun t ht=>?_⟩⟩⟩
     have u1:=zg hb (.tup [.str "jump",r.arg,.int r.line])
     have u2:=zg h2 (.lst [.ref b])
     have u3:=zg ht (.tup [.int 2,.ref l2])
     exact q1 t l2 [b] _ ((u1.trans u2).trans u3) zb (u3 _ _ zb) (.cons ((u2.trans u3) _ _ zb) .nil)
    ·rw [ko (fun z=>e (beq_iff_eq.mpr z))] at q1
     refine ⟨by show 0≤sizeLine;decide,fun l2 h2=>⟨by show 2≤sizeLine;decide,fun t ht=>?_⟩⟩
     have u2:=zg h2 (.lst [])
     have u3:=zg ht (.tup [.int 2,.ref l2])
     exact q1 t l2 [] _ (u2.trans u3) zb (u3 _ _ zb) .nil
theorem z3G:zn ["rows","at","op","mark","line","pushed"] ["rows","at"] (ze (top 77)):=fsM
theorem z2X (D:zt K mg "fold_or" (top 77)) (FA:FN P w K mg base 2 "pushes_ahead" ["rows","at","many"] Zp) (FT:FN P w K mg base 1 "is_true" ["value"] z1P):FN P w K mg base 6 "fold_or" ["rows","at"] (qW orA):=by
 refine FN.of D z3G (fun _ _ _ _ _ _=>zU2 fun _ _=>rfl) qQ (fun f cdv A outer s H vs Q E hr h=>?_)
 obtain ⟨l,as,rs,at_,res,rfl,hl,hR,hn,ha,hg,q⟩:=h
 have hr1:=hr.mono (show 1≤5 by decide)
 have hr2:=hr.mono (show 2≤5 by decide)
 refine ⟨_,z8 (jW (zx zr (pv 0) (pv 1) (fun _ _=>rfl)) (jX rfl (zD (zB (i:=2) z3G.nd rfl (Or.inl rfl)) (zD (zB (i:=3) z3G.nd rfl (Or.inl rfl)) (zD (zB (i:=4) z3G.nd rfl (Or.inl rfl)) qY)))))
  (z8 (zH (jt (qz (zp FA hr2 rfl (z6 (pv 0) (z6 (pv 1) (z6 zc z7)))))) (zd (zm qc)) zu)
  (z8 (zI (i:=5) z3G.nd rfl (Or.inl rfl) (zx zr (pv 0) (zG qo (pv 1) zc) (fun _ _=>rfl)))
  (z8 (zH (zk qe (zp FT hr1 rfl (z6 (zx zS (pv 5) zc (fun _ _=>rfl)) z7)) (zU qe (pv 2) zf (zo _)) (zo _)) (zd (zm (zF (z6 zc (z6 (zO (z6 (pv 5) (z6 (zF (z6 zf (z6 (pv 3) (z6 (pv 4) z7)))) z7))) z7))))) zu)
  (zd (zm (zF (z6 zc (z6 (zO z7) z7)))))))),?_⟩
 unfold orA at hg
 cases e0:rs[at_]? with
 | none=>rw [e0] at hg;cases hg
 | some r=>
  rw [e0] at hg
  dsimp only at hg
  obtain ⟨a0,f0,g0⟩:=hR.get' e0
  refine ⟨_,rfl,_,rfl,l,_,_,_,rfl,rfl,SqL.of hl,zi f0,a0,_,rfl,SqT.of g0,rfl,_,_,rfl,_,_,rfl,_,_,rfl,rfl,?_⟩
  by_cases h1:1≤at_
  case neg=>
   rw [ko h1] at hg
   cases hg
   refine ⟨_,rfl,_,rfl,l,as,rs,at_,1,rfl,hl,hR,hn,by lia,fun H1 s1=>⟨zX rs at_ 1,rfl,?_⟩⟩
   rw [z6H (by lia)]
   exact iteT (q H1 s1)
  rw [kq h1] at hg
  cases e1:rs[at_ - 1]? with
  | none=>rw [e1] at hg;cases hg
  | some x=>
   rw [e1] at hg
   dsimp only at hg
   obtain ⟨a1,f1,g1⟩:=hR.get' e1
   have c1:(at_:Int) - 1=((at_ - 1:Nat):Int):=by lia
   refine ⟨_,rfl,_,rfl,l,as,rs,at_,1,rfl,hl,hR,hn,by lia,fun H1 s1=>⟨zX rs at_ 1,rfl,?_⟩⟩
   cases hh:zX rs at_ 1 with
   | false=>
    rw [hh,ko ka] at hg
    cases hg
    exact iteT (q H1 s1)
   | true=>
    rw [hh,kq rfl] at hg
    by_cases hz:jH x.arg=true
    case neg=>rw [ko hz] at hg;cases hg
    rw [kq hz] at hg
    cases hg
    have q1:=q.mono s1
    have hl1:=s1 _ _ hl
    have g1':=s1 _ _ g1
    refine iteF ⟨_,rfl,_,rfl,_,_,rfl,rfl,l,_,_,_,rfl,rfl,SqL.of hl1,(by rw [c1];exact zi f1),?_⟩
    refine ⟨_,rfl,a1,_,_,_,rfl,rfl,SqT.of g1',zi (j:=1) rfl,x.arg,rfl,jp hz,_,rfl,rfl,rfl,_,rfl,?_⟩
    rw [qP,Ju]
    refine ite2 (fun e=>?_) (fun e=>?_)
    ·rw [kq (eq_of_beq e)] at q1
     refine ⟨_,rfl,_,rfl,_,rfl,by show 3≤sizeLine;decide,fun b hb=>⟨by show 2≤sizeLine;decide,fun l2 h2=>⟨by show 2≤sizeLine;decide,fun t ht=>?_⟩⟩⟩
     have u1:=zg hb (.tup [.str "jump",r.arg,.int r.line])
     have u2:=zg h2 (.lst [.ref a1,.ref b])
     have u3:=zg ht (.tup [.int 2,.ref l2])
     exact q1 t l2 [a1,b] _ ((u1.trans u2).trans u3) zb (u3 _ _ zb) (.cons (((u1.trans u2).trans u3) _ _ g1') (.cons ((u2.trans u3) _ _ zb) .nil))
    ·rw [ko (fun z=>e (beq_iff_eq.mpr z))] at q1
     refine ⟨by show 0≤sizeLine;decide,fun l2 h2=>⟨by show 2≤sizeLine;decide,fun t ht=>?_⟩⟩
     have u2:=zg h2 (.lst [])
     have u3:=zg ht (.tup [.int 2,.ref l2])
     exact q1 t l2 [] _ (u2.trans u3) zb (u3 _ _ zb) .nil
end
set_option maxHeartbeats 8000000
noncomputable def zQ (rs:List Row) (at_:Nat):Option (Option (Nat × List Row)):=match rs[at_]? with
 | some r=>(match tagT.lookup r.op with
  | none=>some none
  | some 1=>jA rs at_
  | some 2=>oneM rs at_
  | some 3=>jK rs at_
  | some 4=>jy rs at_
  | some 5=>twoM rs at_
  | some 6=>ifA rs at_
  | some 7=>orA rs at_
  | some _=>none)
 | none=>none
structure z6I (w:World) (K:kn) (mg:Str→Option Value):Prop where
 folds:∃(d:Addr) (g:Nat→Addr),mg "FOLDS"=some (.ref d)∧KTab w.params K d (tagT.map fun p=>(p.1,V.ref (g p.2)))∧mg "fold_drop"=some (.ref (g 1))∧mg "fold_one"=some (.ref (g 2))∧mg "fold_copy"=some (.ref (g 3))∧mg "fold_swap"=some (.ref (g 4))∧mg "fold_two"=some (.ref (g 5))∧mg "fold_if"=some (.ref (g 6))∧mg "fold_or"=some (.ref (g 7))
def z6J (H:Hp) (xv:V):Option (Nat × List Row)→Prop
 | none=>xv=.non
 | some (n,ins)=>∃(t l:Addr) (as:List Addr),xv=.ref t∧H t=some (.tup [.int (n:Nat),.ref l])∧H l=some (.lst (as.map V.ref))∧zv H as ins
theorem Jf.of {H:Hp} {Q:VK} {res:Option (Nat × List Row)} (h:∀xv H3,Same H H3→z6J H3 xv res→Q xv H3):Jf H Q res:=by
 cases res with
 | none=>exact fun H' s=>h .non H' s rfl
 | some p=>exact fun t l as H' s h1 h2 h3=>h (.ref t) H' s ⟨t,l,as,rfl,h1,h2,h3⟩
noncomputable def putW (rs:List Row) (n:Nat) (ins:List Row):List Row:=rs.take (rs.length - n)++ins
noncomputable def qR:Nat→List Row→Option (Nat × List Row)→Option (List Row)
 | _,rs,none=>some rs
 | 0,rs,some (n,ins)=>if 1≤n∧n≤rs.length∧ins.length≤n then (if ins.isEmpty=true then some (putW rs n ins) else none) else none
 | f+1,rs,some (n,ins)=>if 1≤n∧n≤rs.length∧ins.length≤n then (if ins.isEmpty=true then some (putW rs n ins) else (match zQ (putW rs n ins) ((putW rs n ins).length - 1) with
  | some res=>qR f (putW rs n ins) res
  | none=>none)) else none
noncomputable def QG (rs:List Row) (r:Row):Option (List Row):=match zQ (rs++[r]) rs.length with
 | some res=>qR (rs.length+1) (rs++[r]) res
 | none=>none
section
theorem z6X:zn ["rows","at","op","fold"] ["rows","at"] (ze (top 79)):=fsM
theorem z30 (D:zt K mg "fold_at" (top 79)) (T:z6I w K mg) (F1:FN P w K mg base 6 "fold_drop" ["rows","at"] (qW jA)) (F2:FN P w K mg base 6 "fold_one" ["rows","at"] (qW oneM)) (F3:FN P w K mg base 6 "fold_copy" ["rows","at"] (qW jK)) (F4:FN P w K mg base 6 "fold_swap" ["rows","at"] (qW jy)) (F5:FN P w K mg base 6 "fold_two" ["rows","at"] (qW twoM)) (F6:FN P w K mg base 6 "fold_if" ["rows","at"] (qW ifA)) (F7:FN P w K mg base 6 "fold_or" ["rows","at"] (qW orA)):FN P w K mg base 7 "fold_at" ["rows","at"] (qW zQ):=by
 refine FN.of D z6X (fun _ _ _ _ _ _=>zU2 fun _ _=>rfl) qQ (fun f cdv A outer s H vs Q E hr h=>?_)
 obtain ⟨l,as,rs,at_,res,rfl,hl,hR,hn,ha,hg,q⟩:=h
 obtain ⟨d,g,md,td,m1,m2,m3,m4,m5,m6,m7⟩:=T.folds
 refine ⟨_,z8 (zI (i:=2) z6X.nd rfl (Or.inl rfl) (zx zS (zx zr (pv 0) (pv 1) (fun _ _=>rfl)) zc (fun _ _=>rfl)))
  (z8 (zH (z8l (z3X td rfl md (pv 2))) (zd (zm qc)) zu)
  (z8 (zI (i:=3) z6X.nd rfl (Or.inl rfl) (QT td rfl md (pv 2) (fun _ _=>rfl)))
  (zd (zm (JK (pv 3) (z6 (pv 0) (z6 (pv 1) z7))))))),?_⟩
 unfold zQ at hg
 cases e0:rs[at_]? with
 | none=>rw [e0] at hg;cases hg
 | some r=>
  rw [e0] at hg
  dsimp only at hg
  obtain ⟨a0,f0,g0⟩:=hR.get' e0
  refine ⟨_,rfl,_,rfl,l,_,_,_,rfl,rfl,SqL.of hl,zi f0,a0,_,_,_,rfl,rfl,SqT.of g0,zi (j:=0) rfl,?_⟩
  have hlook:(tagT.map fun p=>(p.1,V.ref (g p.2))).lookup r.op=(tagT.lookup r.op).map fun t=>V.ref (g t):=Zf (fun t:Nat=>V.ref (g t)) r.op tagT
  refine ⟨_,rfl,r.op,rfl,_,rfl,?_⟩
  rw [hlook,Option.isSome_map]
  cases ht:tagT.lookup r.op with
  | none=>
   rw [ht] at hg
   cases hg
   exact iteT (q H (Same.refl _))
  | some t=>
   rw [ht] at hg
   refine iteF ⟨_,rfl,r.op,_,rfl,(by rw [hlook,ht];rfl),?_⟩
   match t,ht,hg with
   | 1,ht,hg=>
    obtain ⟨gf,gd,mg1,kp,bd,ok⟩:=F1
    cases (kr (m1.symm.trans mg1))
    exact ⟨_,gd,_,_,6,rfl,kp,ok,hr,bd,_,rfl,_,rfl,l,as,rs,at_,res,rfl,hl,hR,hn,ha,hg,q⟩
   | 2,ht,hg=>
    obtain ⟨gf,gd,mg1,kp,bd,ok⟩:=F2
    cases (kr (m2.symm.trans mg1))
    exact ⟨_,gd,_,_,6,rfl,kp,ok,hr,bd,_,rfl,_,rfl,l,as,rs,at_,res,rfl,hl,hR,hn,ha,hg,q⟩
   | 3,ht,hg=>
    obtain ⟨gf,gd,mg1,kp,bd,ok⟩:=F3
    cases (kr (m3.symm.trans mg1))
    exact ⟨_,gd,_,_,6,rfl,kp,ok,hr,bd,_,rfl,_,rfl,l,as,rs,at_,res,rfl,hl,hR,hn,ha,hg,q⟩
   | 4,ht,hg=>
    obtain ⟨gf,gd,mg1,kp,bd,ok⟩:=F4
    cases (kr (m4.symm.trans mg1))
    exact ⟨_,gd,_,_,6,rfl,kp,ok,hr,bd,_,rfl,_,rfl,l,as,rs,at_,res,rfl,hl,hR,hn,ha,hg,q⟩
   | 5,ht,hg=>
    obtain ⟨gf,gd,mg1,kp,bd,ok⟩:=F5
    cases (kr (m5.symm.trans mg1))
    exact ⟨_,gd,_,_,6,rfl,kp,ok,hr,bd,_,rfl,_,rfl,l,as,rs,at_,res,rfl,hl,hR,hn,ha,hg,q⟩
   | 6,ht,hg=>
    obtain ⟨gf,gd,mg1,kp,bd,ok⟩:=F6
    cases (kr (m6.symm.trans mg1))
    exact ⟨_,gd,_,_,6,rfl,kp,ok,hr,bd,_,rfl,_,rfl,l,as,rs,at_,res,rfl,hl,hR,hn,ha,hg,q⟩
   | 7,ht,hg=>
    obtain ⟨gf,gd,mg1,kp,bd,ok⟩:=F7
    cases (kr (m7.symm.trans mg1))
    exact ⟨_,gd,_,_,6,rfl,kp,ok,hr,bd,_,rfl,_,rfl,l,as,rs,at_,res,rfl,hl,hR,hn,ha,hg,q⟩
   | 0,ht,hg=>cases hg
   | _+8,ht,hg=>cases hg
def z3q:Sp:=fun vs H Q _=>∃(l ra:Addr) (as:List Addr) (rs:List Row) (r:Row) (out:List Row),vs=[.ref l,.ref ra]∧H l=some (.lst (as.map V.ref))∧zv H as rs∧H ra=some (.tup (tupV r))∧rs.length≤900∧QG rs r=some out∧
 ∀l' as' H',Same H H'→H' l'=some (.lst (as'.map V.ref))→zv H' as' out→Q (.ref l') H'
theorem z1j:zn ["rows","row","found","fold","many","instead"] ["rows","row"] (ze (top 80)):=fsM
theorem z5O (D:zt K mg "with_row" (top 80)) (G:Glo mg) (FA:FN P w K mg base 7 "fold_at" ["rows","at"] (qW zQ)):FN P w K mg base 8 "with_row" ["rows","row"] z3q:=by
 refine FN.o D z1j fun f cdv A outer s H vs Q E hr h=>?_
 obtain ⟨l,ra,as,rs,r,out,rfl,hl,hR,hra,hn,hw,q⟩:=h
 refine ⟨_,z8 (zI (i:=2) z1j.nd rfl (Or.inl rfl) (zG z42 (pv 0) (zO (z6 (pv 1) z7))))
  (z8 (zI (i:=3) z1j.nd rfl (Or.inl rfl) (zp FA hr rfl (z6 (pv 2) (z6 (zG qo (zw zy rfl G.len zW (z6 (pv 2) z7)) zc) z7))))
  (z8 (z1U PassesOwn.never (zk JL (pv 3) qc (zo _))
   (z8 (jW (pv 3) (jX (n:=2) rfl (zD (zB (i:=4) z1j.nd rfl (Or.inl rfl)) (zD (zB (i:=5) z1j.nd rfl (Or.inl rfl)) qY))))
   (z8 (zI (i:=2) z1j.nd rfl (Or.inl rfl) (zG z42 (ZE JC (pv 2) z1n (Zr (JH Zw (pv 4)))) (pv 5)))
   (zd (zI (i:=3) z1j.nd rfl (Or.inl rfl) (j6 (Qx (pv 5) (fun _=>rfl)) (zp FA hr rfl (z6 (pv 2) (z6 (zG qo (zw zy rfl G.len zW (z6 (pv 2) z7)) zc) z7))) qc))))))
  (zd (zm (pv 2))))),?_⟩
 have hll:as.length=rs.length:=hR.len
 refine ⟨_,rfl,_,rfl,by show 1≤sizeLine;decide,fun p1 hp1=>?_⟩
 have s1:=zg hp1 (.lst [.ref ra])
 refine ⟨l,p1,_,_,rfl,rfl,s1 _ _ hl,zb,Nat.le_of_lt (qh (by rw [kg];show as.length+1≤1000;lia)),fun fl hfl=>?_⟩
 have s2:=s1.trans (zg hfl (.lst (as.map V.ref++[.ref ra])))
 have hfl':(upd (upd H p1 (.lst [.ref ra])) fl (.lst (as.map V.ref++[.ref ra]))) fl=some (.lst ((as++[ra]).map V.ref)):=by
  rw [zb,kE]
  rfl
 have hR2:zv (upd (upd H p1 (.lst [.ref ra])) fl (.lst (as.map V.ref++[.ref ra]))) (as++[ra]) (rs++[r]):=zv.app (hR.same s2) (.cons (s2 _ _ hra) .nil)
 generalize upd (upd H p1 (.lst [.ref ra])) fl (.lst (as.map V.ref++[.ref ra]))=H2 at *
 have hl1:((as++[ra]).map V.ref).length=rs.length+1:=by rw [kg,kh,hll];rfl
 unfold QG at hw
 have hvs:[V.ref fl,V.int ((((as++[ra]).map V.ref).length:Int) - 1)]=[V.ref fl,.int (rs.length:Nat)]:=by
  rw [hl1]
  have e:((rs.length+1:Nat):Int) - 1=(rs.length:Int):=by lia
  rw [e]
 have hz0:(rs++[r]).length=rs.length+1:=by rw [kh];rfl
 cases hfm:zQ (rs++[r]) rs.length with
 | none=>rw [hfm] at hw;cases hw
 | some o=>
  rw [hfm] at hw
  dsimp only at hw
  refine ⟨_,rfl,_,rfl,fl,_,rfl,.inl (SqL.of hfl'),_,_,rfl,rfl,fl,_,rs++[r],rs.length,o,hvs,hfl',hR2,by lia,by lia,hfm,Jf.of fun xv H3 s3 hx3=>?_⟩
  refine ⟨fun m σ H4=>Same H H4∧∃(fl:Addr) (as2:List Addr) (rs2:List Row) (x4 x5:Option V) (xv:V) (res:Option (Nat × List Row)) (k:Nat),σ=[some (.ref l),some (.ref ra),some (.ref fl),some xv,x4,x5]∧H4 fl=some (.lst (as2.map V.ref))∧zv H4 as2 rs2∧rs2.length≤901∧z6J H4 xv res∧qR k rs2 res=some out∧(res=none∨m=k+1),
   ⟨_,s2.trans s3,fl,as++[ra],rs++[r],none,none,xv,o,_,rfl,s3 _ _ hfl',hR2.same s3,by lia,hx3,hw,.inr rfl⟩,?_⟩
  clear hw hx3 s3 hvs hl1 hfl' hR2 hfm s2 s1 hp1 hfl
  rintro m σ H4 ⟨s4,fl,as2,rs2,x4,x5,xv,res,k,rfl,hf4,hR4,hz4,hx4,hw4,hm⟩
  refine ⟨_,rfl,rfl,_,rfl,?_⟩
  cases res with
  | none=>
   have hx4:xv=.non:=hx4
   subst hx4
   have hw4:rs2=out:=kr (by cases k <;> exact hw4)
   subst hw4
   exact iteF ⟨_,rfl,q fl as2 H4 s4 hf4 hR4⟩
  | some z=>
   obtain ⟨n,ins⟩:=z
   obtain ⟨t,il,ias,rfl,ht4,hil4,hI4⟩:=hx4
   have hm:m=k+1:=by
    rcases hm with hm | hm
    ·cases hm
    ·exact hm
   subst hm
   have ok:1≤n∧n≤rs2.length∧ins.length≤n:=by
    by_cases hok:1≤n∧n≤rs2.length∧ins.length≤n
    ·exact hok
    ·cases k <;> (unfold qR at hw4;rw [ko hok] at hw4;cases hw4)
   obtain ⟨hn1,hn2,hins⟩:=ok
   have hl2:as2.length=rs2.length:=hR4.len
   have hli:ias.length=ins.length:=hI4.len
   refine iteT ⟨_,fun _ _ h=>h,?_⟩
   refine ⟨_,rfl,t,_,rfl,SqT.of ht4,rfl,_,_,rfl,_,_,rfl,rfl,?_⟩
   refine ⟨_,rfl,_,rfl,_,rfl,_,rfl,fl,_,rfl,SqL.of hf4,fun sl hsl=>?_⟩
   rw [z65 hn1 (by lia)]
   have t1:=zg hsl (.lst ((as2.take (as2.length - n)).map V.ref))
   refine ⟨_,rfl,sl,il,_,_,rfl,rfl,zb,t1 _ _ hil4,Nat.le_of_lt (qh (by rw [kg,kg,List.length_take];lia)),fun nf hnf=>?_⟩
   have t2:=t1.trans (zg hnf (.lst ((as2.take (as2.length - n)).map V.ref++ias.map V.ref)))
   have hRt:zv H4 (as2.take (as2.length - n)) (rs2.take (rs2.length - n)):=by rw [hl2];exact zv.take (rs2.length - n) hR4
   have hnf':(upd (upd H4 sl (.lst ((as2.take (as2.length - n)).map V.ref))) nf (.lst ((as2.take (as2.length - n)).map V.ref++ias.map V.ref))) nf=some (.lst ((as2.take (as2.length - n)++ias).map V.ref)):=by
    rw [zb,kE]
   have hRn:zv (upd (upd H4 sl (.lst ((as2.take (as2.length - n)).map V.ref))) nf (.lst ((as2.take (as2.length - n)).map V.ref++ias.map V.ref))) (as2.take (as2.length - n)++ias) (putW rs2 n ins):=zv.app (hRt.same t2) (hI4.same t2)
   have hil5:=t2 _ _ hil4
   generalize upd (upd H4 sl (.lst ((as2.take (as2.length - n)).map V.ref))) nf (.lst ((as2.take (as2.length - n)).map V.ref++ias.map V.ref))=H5 at *
   have hl5:(putW rs2 n ins).length=rs2.length - n+ins.length:=by unfold putW;rw [kh,List.length_take];lia
   refine ⟨_,rfl,!(ias.map V.ref).isEmpty,.inl ⟨_,SqL.of hil5,rfl⟩,?_⟩
   have em:(ias.map V.ref).isEmpty=ins.isEmpty:=by
    cases ias with
    | nil=>cases ins with
     | nil=>rfl
     | cons a b=>simp at hli
    | cons x y=>cases ins with
     | nil=>simp at hli
     | cons a b=>rfl
   rw [em]
   cases he:ins.isEmpty with
   | true=>
    have ho:putW rs2 n ins=out:=by
     cases k <;> (unfold qR at hw4;rw [kq ⟨hn1,hn2,hins⟩,kq he] at hw4;exact kr hw4)
    exact iteF ⟨0,Nat.succ_pos _,s4.trans t2,nf,_,_,_,_,.non,none,0,rfl,hnf',hRn,by lia,rfl,by rw [←ho];rfl,.inl rfl⟩
   | false=>
    have hne:¬(ins.isEmpty=true):=by rw [he];exact ka
    cases k with
    | zero=>unfold qR at hw4;rw [kq ⟨hn1,hn2,hins⟩,ko hne] at hw4;cases hw4
    | succ k=>
     unfold qR at hw4
     rw [kq ⟨hn1,hn2,hins⟩,ko hne] at hw4
     have hpos:1≤ins.length:=by
      cases ins with
      | nil=>cases he
      | cons a b=>simp
     have hla5:((as2.take (as2.length - n)++ias).map V.ref).length=(putW rs2 n ins).length:=by rw [kg];exact hRn.len
     cases hfa:zQ (putW rs2 n ins) ((putW rs2 n ins).length - 1) with
     | none=>rw [hfa] at hw4;cases hw4
     | some res=>
      rw [hfa] at hw4
      dsimp only at hw4
      refine iteT ⟨_,rfl,_,rfl,nf,_,rfl,.inl (SqL.of hnf'),_,_,rfl,rfl,nf,_,putW rs2 n ins,(putW rs2 n ins).length - 1,res,?_,hnf',hRn,by lia,by lia,hfa,Jf.of fun xv H6 s6 hx6=>?_⟩
      ·rw [hla5]
       have e:(((putW rs2 n ins).length:Int) - 1)=(((putW rs2 n ins).length - 1:Nat):Int):=by lia
       show [V.ref nf,V.int (((putW rs2 n ins).length:Int) - 1)]=_
       rw [e]
      ·exact ⟨k+1,by lia,(s4.trans t2).trans s6,nf,_,_,_,_,xv,res,k,rfl,s6 _ _ hnf',hRn.same s6,by lia,hx6,hw4,.inr rfl⟩
end
noncomputable def qx:List Row→List Row→Option (List Row)
 | acc,[]=>some acc
 | acc,r :: rs=>(match QG acc r with
  | some acc'=>if acc'.length≤acc.length+1 then qx acc' rs else none
  | none=>none)
section
def z0c:Sp:=fun vs H Q _=>∃(l:Addr) (as:List Addr) (rs:List Row) (fin:List (Option (Int × List (Int × Int)))) (out:List Row),vs=[.ref l]∧H l=some (.lst (as.map V.ref))∧zv H as rs∧Code rs∧(ZW rs).isSome=true∧rs.length≤200∧qx [] rs=some out∧
 ∀l' as' H',Same H H'→H' l'=some (.lst (as'.map V.ref))→zv H' as' out→Q (.ref l') H'
theorem z5a:zn ["code","found","row"] ["code"] (ze (top 81)):=fsM
theorem z2V (D:zt K mg "folded" (top 81)) (FS:FN P w K mg base 10 "states" ["code"] (JA K)) (FW:FN P w K mg base 8 "with_row" ["rows","row"] z3q):FN P w K mg base 11 "folded" ["code"] z0c:=by
 refine FN.o D z5a fun f cdv A outer s H vs Q E hr h=>?_
 obtain ⟨l,as,rs,_,out,rfl,hl,hR,hc,hst,hn,hf,q⟩:=h
 refine ⟨_,z8 (zj (zp FS hr rfl (z6 (pv 0) z7)))
  (z8 (zI (i:=1) z5a.nd rfl (Or.inl rfl) (zO z7))
  (z8 (Z1 PassesOwn.never rfl (ZZ (pv 0)) (zB (i:=2) z5a.nd rfl (Or.inl rfl)) (zd (zI (i:=1) z5a.nd rfl (Or.inl rfl) (zp FW (hr.mono (by decide)) rfl (z6 (pv 1) (z6 (pv 2) z7))))))
  (zd (zm (pv 1))))),?_⟩
 obtain ⟨fin,hfin⟩:=Option.isSome_iff_exists.mp hst
 refine ⟨_,rfl,l,as,rs,fin,rfl,hl,hR,hc,hfin,fun fl fvs H1 s1 _ _ _=>?_⟩
 refine ⟨by show 0≤sizeLine;decide,fun p hp=>?_⟩
 have s2:=s1.trans (zg hp (.lst []))
 have hll:as.length=rs.length:=hR.len
 refine ⟨_,rfl,l,rfl,⟨_,SqL.of (s2 _ _ hl)⟩,z2c (xs:=as.map V.ref) (fun i σ H2=>∃(x:Option V) (fl:Addr) (fas:List Addr) (acc:List Row),σ=[some (.ref l),some (.ref fl),x]∧H2 fl=some (.lst (fas.map V.ref))∧zv H2 fas acc∧acc.length≤i∧qx acc (rs.drop i)=some out∧Same H H2)
  ⟨_,p,[],[],rfl,zb,.nil,Nat.zero_le _,by rw [List.drop_zero];exact hf,s2⟩ (fun i σ H2 _ ⟨_,_,_,_,_,_,_,_,_,s3⟩=>SqL.of (s3 _ _ hl)) ?_ ?_⟩
 ·rintro i x σ H2 hi ⟨y,fl,fas,acc,rfl,hf2,hR2,hal,hfm,s3⟩
  obtain ⟨a,r,rfl,er,ha⟩:=(hR.same s3).get hi
  have hil:i < rs.length:=(kd.mp er).1
  rw [List.drop_eq_getElem_cons hil,(kd.mp er).2] at hfm
  unfold qx at hfm
  cases hw:QG acc r with
  | none=>rw [hw] at hfm;cases hfm
  | some acc'=>
   rw [hw] at hfm
   dsimp only at hfm
   by_cases hz:acc'.length≤acc.length+1
   case neg=>rw [ko hz] at hfm;cases hfm
   rw [kq hz] at hfm
   refine ZM ?_
   refine ⟨_,rfl,_,rfl,fl,a,fas,acc,r,acc',rfl,hf2,hR2,ha,by lia,hw,fun l' as' H3 s4 hl' hR'=>?_⟩
   exact ⟨_,l',as',acc',rfl,hl',hR',by lia,hfm,s3.trans s4⟩
 ·rintro σ H2 ⟨y,fl,fas,acc,rfl,hf2,hR2,hal,hfm,s3⟩
  rw [kg,hll,List.drop_length] at hfm
  cases hfm
  exact ⟨_,rfl,q fl fas H2 s3 hf2 hR2⟩
end
noncomputable def z4L:Scope:=match (zV (top 82)).getD 1 (.Pass ⟨0,0,0,0⟩) with
 | .Return (some (.Call _ [.ListComp _ _ s _] _ _)) _=>s
 | _=>ze (top 82)
noncomputable def cl82 (L:Addr):List (Str × Addr):=[("code",L+1)]
noncomputable def nm82:List (Str × NameKind):=[(".0",.local),("at",.local),("fold_at",.globalImplicit),("code",.cell)]
noncomputable def N82:List Str:=["at","code"]
theorem sc82:zn ["code"] ["code"] (ze (top 82)):=fsM
theorem z8X (f:Addr) (cdv:Value) (L:Addr):closureFor z4L (envOfC "is_folded" (ze (top 82)) L f cdv)=pure (cl82 L):=by rfl
theorem z9j (f:Addr) (cdv:Value) (L:Addr):(relabel z4L (envOfC "is_folded" (ze (top 82)) L f cdv)).names=nm82:=by rfl
theorem nd82:N82.Nodup:=by trivial
theorem cs82 {P:Program} {w:World} {K:kn} {mg:Str→Option Value} {base:Heap} {f:Addr} {cdv:Value} {A:Around} {outer:List Env} {s:Shared} {H:Hp} {E:XK}:
  jF (cxOf CX0 P w K mg base ["code"] "is_folded" (ze (top 82)) f cdv A outer s H E).nox N82 1 [0] z4L (cl82 s.heap.objs.size) where
 clos:=z8X f cdv s.heap.objs.size
 nocell:=by trivial
 kind:=rfl
 names:=by trivial
 sub:=fun x c e=>e
 has:=fun x h=>by
  have e:=z9j f cdv s.heap.objs.size
  have h:nm82.lookup x=some .cell∨nm82.lookup x=some .free:=by rw [←e];exact h
  have:x="code":=by
   rcases h with h | h
   ·have hm:=PySem.mem_of_lookup h
    simp only [nm82,kw,Prod.mk.injEq,kl,or_false] at hm
    rcases hm with z | z | z | z
    all_goals first | exact z.1 | exact z.2.elim | cases z.2
   ·have hm:=PySem.mem_of_lookup h
    simp only [nm82,kw,Prod.mk.injEq,kl,or_false] at hm
    rcases hm with z | z | z | z
    all_goals first | exact z.2.elim | cases z.2
  subst this
  exact ⟨_,rfl⟩
 len:=rfl
 free:=fun j x e=>by
  match j,e with
  | 0,e=>cases e;exact ⟨0,rfl,rfl,rfl,rfl,fun c h=>h⟩
  | j+1,e=>exact absurd e (by rw [List.getElem?_eq_none (by show 2≤1+(j+1);lia)];exact nofun)
noncomputable def z5w:Option (Option (Nat × List Row))→Bool
 | some none=>true
 | _=>false
noncomputable def jP (rs:List Row):Bool:=(List.range rs.length).all fun i=>z5w (zQ rs i)
section
def Jj:Sp:=fun vs H Q _=>∃(l:Addr) (as:List Addr) (rs:List Row),vs=[.ref l]∧H l=some (.lst (as.map V.ref))∧zv H as rs∧Code rs∧(ZW rs).isSome=true∧rs.length≤200∧(∀i,i < rs.length→(zQ rs i).isSome=true)∧∀H',Same H H'→Q (.bl (jP rs)) H'
theorem z1A (D:zt K mg "is_folded" (top 82)) (G:Glo mg) (FS:FN P w K mg base 10 "states" ["code"] (JA K)) (FA:FN P w K mg base 7 "fold_at" ["rows","at"] (qW zQ)):FN P w K mg base 11 "is_folded" ["code"] Jj:=by
 refine FN.o D sc82 fun f cdv A outer s H vs Q E hr h=>?_
 obtain ⟨l,as,rs,rfl,hl,hR,hc,hst,hn,hal,q⟩:=h
 have hr7:=hr.mono (show 7≤10 by decide)
 refine ⟨_,z8 (zj (zp FS hr rfl (z6 (pv 0) z7)))
  (zd (zm (zw (ZS rfl) rfl G.all z2p (z6 (JI (N:=N82) (nt:=1) (ix:=[0]) (cl:=cl82 s.heap.objs.size) rfl cs82 (qA rfl G.range (z6 (zw zy rfl G.len zW (z6 (pv 0) z7)) z7))
   (fun _ _ _ _=>zB (i:=0) nd82 rfl (Or.inl rfl)) (fun _ _ _ _=>QQ) (fun _ _ _ _=>zU QV (zp FA hr7 rfl (z6 (pv 1) (z6 (pv 0) z7))) qc (zo _))) z7)))),?_⟩
 obtain ⟨fin,hfin⟩:=Option.isSome_iff_exists.mp hst
 have hll:as.length=rs.length:=hR.len
 refine ⟨_,rfl,l,as,rs,fin,rfl,hl,hR,hc,hfin,fun fl fvs H1 s1 _ _ _=>?_⟩
 refine ⟨_,rfl,l,_,rfl,.inl (SqL.of (s1 _ _ hl)),_,rfl,by lia,by rw [kg];lia,fun nl hnl=>J8 (n:=(as.map V.ref).length) (fun i ys σ H4=>(∃x:Option V,σ=[x,some (.ref l)])∧ys=((List.range i).map fun i=>z5w (zQ rs i)).map V.bl∧Same H1 H4∧H4 nl=some (.lst ys)) ⟨⟨none,rfl⟩,rfl,zg hnl _,zb⟩ ?_ ?_⟩
 ·rintro i ys σ H4 hi ⟨⟨x,rfl⟩,rfl,s4,hn4⟩
  rw [kg] at hi
  refine ZM ?_
  refine QI ?_
  obtain ⟨res,hres⟩:=Option.isSome_iff_exists.mp (hal i (by lia))
  have s14:=s1.trans s4
  refine ⟨_,rfl,_,rfl,l,as,rs,i,res,rfl,s14 _ _ hl,hR.same s14,by lia,by lia,hres,Jf.of fun xv H5 s5 hx5=>?_⟩
  refine ⟨rfl,?_⟩
  refine ⟨s5 _ _ hn4,?_,as.length - (i+1),by rw [kg];lia,by rw [kg],by rw [kg];lia,⟨_,rfl⟩,?_,?_,zb⟩
  ·rw [kg,kg,List.length_range]
   exact qh (by lia)
  ·rw [List.range_succ,kE,kE]
   congr 1
   have:decide (xv=V.non)=z5w (zQ rs i):=by
    rw [hres]
    cases res with
    | none=>rw [show xv=V.non from hx5];rfl
    | some z=>
     obtain ⟨t,l',as',rfl,_⟩:=hx5
     rfl
   rw [this]
   rfl
  ·exact fun c o e=>by rw [zl (zh e hnl)];exact s5 _ _ (s4 c o e)
 ·rintro ys σ H4 ⟨_,rfl,s4,hn4⟩
  refine ⟨nl,_,rfl,SqL.of hn4,?_⟩
  rw [kg,hll,List.all_map]
  exact q H4 (s1.trans s4)
end
theorem z16 {a b:List Row} {i n:Nat} (h:i < a.length):zX (a++b) i n=zX a i n:=by
 unfold zX
 by_cases hn:n≤i
 ·rw [List.drop_append_of_le_length (by lia),List.take_append_of_le_length (by rw [List.length_drop];lia)]
 ·rw [ke hn,Bool.false_and,Bool.false_and]
theorem ZO {a b:List Row} {i:Nat} (h:i < a.length):zQ (a++b) i=zQ a i:=by
 have e0:(a++b)[i]?=a[i]?:=ya h
 have e1:(a++b)[i - 1]?=a[i - 1]?:=ya (by lia)
 have e2:(a++b)[i - 2]?=a[i - 2]?:=ya (by lia)
 unfold zQ jA oneM jK jy twoM ifA orA
 rw [e0,e1,e2,z16 h,z16 h]
theorem ZB {rs:List Row} {i:Nat} {r:Row} (e:rs[i]?=some r) (h:tagT.lookup r.op=none):zQ rs i=some none:=by
 unfold zQ
 rw [e]
 dsimp only
 rw [h]
inductive Shp (i:Nat):Nat→List Row→Prop where
 | gone {n:Nat} (h:2≤n) (hn:n≤i+1):Shp i n []
 | one {n:Nat} {r:Row} (h:2≤n) (hn:n≤i+1) (hr:tagT.lookup r.op=none):Shp i n [r]
 | two {n:Nat} {x r:Row} (h:2≤n) (hn:n≤i+1) (hx:x.op="push") (hr:tagT.lookup r.op=none):Shp i n [x,r]
 | way {r:Row} (hn:1≤i) (hr:tagT.lookup r.op=some 6):Shp i 2 [r]
theorem qL {rs:List Row} {i:Nat} {x:Row} (h:zX rs i 1=true) (e:rs[i - 1]?=some x):x.op="push":=by
 have h1:=qa h
 unfold zX Z8 at h
 rw [kX,List.all_eq_true] at h
 refine ku (h.2 x ?_)
 refine kz (i:=0) ?_
 rw [List.getElem?_take,kq (by decide),List.getElem?_drop]
 exact e
theorem ZU {rs:List Row} {i:Nat} {x y:Row} (h:zX rs i 2=true) (e:rs[i - 2]?=some x) (e1:rs[i - 1]?=some y):x.op="push"∧y.op="push":=by
 have h1:=qa h
 unfold zX Z8 at h
 rw [kX,List.all_eq_true] at h
 refine ⟨ku (h.2 x (kz (i:=0) ?_)),ku (h.2 y (kz (i:=1) ?_))⟩
 ·rw [List.getElem?_take,kq (by decide),List.getElem?_drop]
  exact e
 ·rw [List.getElem?_take,kq (by decide),List.getElem?_drop]
  have:i - 2+1=i - 1:=by lia
  rw [this]
  exact e1
theorem Qr:tagT.lookup ("push":Str)=none:=by trivial
theorem z1N:tagT.lookup ("jump":Str)=none:=by trivial
theorem z28 {i many n:Nat} {r1 r2:V} {line:Int} {ins:List Row} (hm:2≤many) (hi:many≤i+1) (h:Qm many r1 r2 line=some (n,ins)):Shp i n ins:=by
 unfold Qm at h
 split at h
 ·split at h
  ·cases h;exact .one hm hi Qr
  ·cases h
 ·cases h
theorem QA {rs:List Row} {i n:Nat} {ins:List Row} (h:zQ rs i=some (some (n,ins))):Shp i n ins:=by
 unfold zQ at h
 cases e0:rs[i]? with
 | none=>rw [e0] at h;cases h
 | some r=>
  rw [e0] at h
  dsimp only at h
  cases ht:tagT.lookup r.op with
  | none=>rw [ht] at h;cases h
  | some t=>
   rw [ht] at h
   match t,ht,h with
   | 0,ht,h=>cases h
   | _+8,ht,h=>cases h
   | 1,ht,h=>
    replace h:jA rs i=some (some (n,ins)):=h
    unfold jA at h
    split at h
    ·rename_i h1
     split at h
     ·split at h
      ·cases h;exact .gone (kc _) (by lia)
      ·cases h
     ·cases h
    ·cases h
   | 2,ht,h=>
    replace h:oneM rs i=some (some (n,ins)):=h
    unfold oneM at h
    split at h
    ·rename_i h1
     have:=qa h1
     split at h
     ·split at h
      ·split at h
       ·split at h
        ·exact z28 (kc _) (by lia) (kr h)
        ·cases h
       ·cases h
      ·cases h
     ·cases h
    ·cases h
   | 3,ht,h=>
    replace h:jK rs i=some (some (n,ins)):=h
    unfold jK at h
    rw [e0] at h
    dsimp only at h
    split at h
    ·split at h
     ·split at h
      ·rename_i h1
       have:=qa h1
       split at h
       ·rename_i x e1
        cases h
        exact .two (kc _) (by lia) (qL h1 e1) Qr
       ·cases h
      ·cases h
     ·cases h
    ·cases h
   | 4,ht,h=>
    replace h:jy rs i=some (some (n,ins)):=h
    unfold jy at h
    rw [e0] at h
    dsimp only at h
    split at h
    ·split at h
     ·split at h
      ·rename_i h1
       have:=qa h1
       split at h
       ·rename_i y x e1 e2
        cases h
        have hp:=ZU h1 e2 e1
        exact .two (by decide) (by lia) hp.2 (by rw [hp.1];exact Qr)
       ·cases h
      ·cases h
     ·cases h
    ·cases h
   | 5,ht,h=>
    replace h:twoM rs i=some (some (n,ins)):=h
    unfold twoM at h
    split at h
    ·rename_i h1
     have:=qa h1
     split at h
     ·split at h
      ·split at h
       ·split at h
        ·exact z28 (by decide) (by lia) (kr h)
        ·cases h
       ·cases h
      ·cases h
     ·cases h
    ·cases h
   | 6,ht,h=>
    replace h:ifA rs i=some (some (n,ins)):=h
    unfold ifA at h
    rw [e0] at h
    dsimp only at h
    split at h
    ·rename_i h1
     split at h
     ·split at h
      ·split at h
       ·rename_i hw
        cases h
        refine .way h1 ?_
        show tagT.lookup (jC r.op)=some 6
        unfold jC
        split <;> decide+kernel
       ·cases h
      ·split at h
       ·split at h
        ·cases h
         split
         ·exact .one (kc _) (by lia) z1N
         ·exact .gone (kc _) (by lia)
        ·cases h
       ·cases h
     ·cases h
    ·cases h
   | 7,ht,h=>
    replace h:orA rs i=some (some (n,ins)):=h
    unfold orA at h
    rw [e0] at h
    dsimp only at h
    split at h
    ·rename_i h1
     split at h
     ·rename_i x e1
      split at h
      ·rename_i h2
       split at h
       ·cases h
        split
        ·exact .two (kc _) (by lia) (qL h2 e1) z1N
        ·exact .gone (kc _) (by lia)
       ·cases h
      ·cases h
     ·cases h
    ·cases h
def FRow (r:Row):Prop:=(r.op="push"→zP r.arg=true)∧(r.op="copy"∨r.op="swap"→∃n,r.arg=.int n)
def qt (rs:List Row):Prop:=∀r∈rs,FRow r
theorem zM {v:V} (h:zP v=true):jH v=true∧∀i,v=.int i→big i=false:=by
 cases v with
 | non=>exact ⟨rfl,fun _ e=>by cases e⟩
 | bl b=>exact ⟨rfl,fun _ e=>by cases e⟩
 | int i=>
  refine ⟨rfl,fun j e=>?_⟩
  cases e
  have h:ql (.int i) (-1000000000) 1000000000=true:=by
   unfold zP Qa at h
   simpa [isB,JS,qO] using h
  unfold ql at h
  unfold big
  simp only [kX,kY] at h
  exact ke (by lia)
 | str z=>
  refine ⟨?_,fun _ e=>by cases e⟩
  unfold zP Qa JS qO at h
  simp [isB,ql] at h
  exact kf (by lia)
 | _=>unfold zP Qa JS qO at h;simp [isB,ql] at h
theorem z2J {op:Str} {x:V}:∃r1 r2,J0 op x=some (r1,r2)∧jH r2=true:=by
 unfold J0
 split
 ·exact ⟨_,_,rfl,rfl⟩
 ·cases x <;> exact ⟨_,_,rfl,rfl⟩
theorem tag5 {op:Str} (h:tagT.lookup op=some 5):op="same"∨op="less"∨op∈(["add","sub","mul","div","rest"]:List Str):=by
 have hm:=PySem.mem_of_lookup h
 simp only [tagT,kw,Prod.mk.injEq,kl,or_false] at hm
 rcases hm with z | z | z | z | z | z | z | z | z | z | z | z | z | z | z | z
 all_goals obtain ⟨rfl,z2⟩:=z
 all_goals first | (cases z2;done) | decide+kernel
theorem Q3 {op:Str} {x y:V} (ht:tagT.lookup op=some 5) (hx:zP x=true) (hy:zP y=true):∃r1 r2,jz op x y=some (r1,r2)∧jH r2=true:=by
 replace hx:=(zM hx).2
 replace hy:=(zM hy).2
 unfold jz
 split
 ·exact ⟨_,_,rfl,rfl⟩
 ·rename_i hs
  split
  ·rename_i i j
   rw [ko (by rw [hx i rfl];exact ka),ko (by rw [hy j rfl];exact ka)]
   split
   ·exact ⟨_,_,rfl,rfl⟩
   ·rename_i hz
    split
    ·exact ⟨_,_,rfl,rfl⟩
    ·rename_i hl
     have:∃k,reck op i j=some k:=by
      rcases tag5 ht with e | e | e
      ·exact absurd e hs
      ·exact absurd e hl
      ·unfold reck
       simp only [kw,kl,or_false] at e
       rcases e with e | e | e | e | e
       ·exact ⟨_,kq e⟩
       ·subst e;exact ⟨_,rfl⟩
       ·subst e;exact ⟨_,rfl⟩
       ·subst e
        have:j≠0:=fun z=>hz ⟨.inl rfl,z⟩
        exact ⟨i.fdiv j,by simp [this];rfl⟩
       ·subst e
        have:j≠0:=fun z=>hz ⟨.inr rfl,z⟩
        exact ⟨i.fmod j,by simp [this];rfl⟩
     obtain ⟨k,hk⟩:=this
     rw [hk]
     dsimp only
     split <;> exact ⟨_,_,rfl,rfl⟩
  ·exact ⟨_,_,rfl,rfl⟩
theorem ZN {rs:List Row} (hF:qt rs) {i:Nat} (hi:i < rs.length):∃res,zQ rs i=some res:=by
 have e0:rs[i]?=some rs[i]:=kF hi
 have hm:∀{j:Nat} {r:Row},rs[j]?=some r→FRow r:=fun e=>hF _ (kz e)
 generalize rs[i]=r at e0
 have at1:1≤i→∃x,rs[i - 1]?=some x:=fun h=>⟨rs[i - 1],kF (by lia)⟩
 have at2:2≤i→∃x,rs[i - 2]?=some x:=fun h=>⟨rs[i - 2],kF (by lia)⟩
 unfold zQ
 rw [e0]
 dsimp only
 cases ht:tagT.lookup r.op with
 | none=>exact ⟨_,rfl⟩
 | some t=>
  have hop:t=1∨t=2∨(t=3∧r.op="copy")∨(t=4∧r.op="swap")∨t=5∨(t=6∧wayT.lookup r.op=some (.str (jC r.op)))∨t=7:=by
   have hm:=PySem.mem_of_lookup ht
   simp only [tagT,kw,Prod.mk.injEq,kl,or_false] at hm
   rcases hm with z | z | z | z | z | z | z | z | z | z | z | z | z | z | z | z
   all_goals obtain ⟨z1,rfl⟩:=z
   all_goals rw [z1]
   all_goals decide+kernel
  rcases hop with rfl | rfl | ⟨rfl,ho⟩ | ⟨rfl,ho⟩ | rfl | ⟨rfl,ho⟩ | rfl
  ·show ∃res,jA rs i=some res
   unfold jA
   split
   ·rename_i h1
    obtain ⟨x,e1⟩:=at1 h1
    rw [e1]
    exact ⟨_,rfl⟩
   ·exact ⟨_,rfl⟩
  ·show ∃res,oneM rs i=some res
   unfold oneM
   split
   ·rename_i h1
    obtain ⟨x,e1⟩:=at1 (qa h1)
    rw [e0,e1]
    dsimp only
    have hp:=(hm e1).1 (qL h1 e1)
    rw [kq (zM hp).1]
    obtain ⟨r1,r2,e,hs⟩:=z2J (op:=r.op) (x:=x.arg)
    rw [e]
    dsimp only
    rw [kq hs]
    exact ⟨_,rfl⟩
   ·exact ⟨_,rfl⟩
  ·show ∃res,jK rs i=some res
   unfold jK
   rw [e0]
   dsimp only
   obtain ⟨n,hn⟩:=(hm e0).2 (.inl ho)
   rw [hn]
   dsimp only
   split
   ·split
    ·rename_i h1
     obtain ⟨x,e1⟩:=at1 (qa h1)
     rw [e1]
     exact ⟨_,rfl⟩
    ·exact ⟨_,rfl⟩
   ·exact ⟨_,rfl⟩
  ·show ∃res,jy rs i=some res
   unfold jy
   rw [e0]
   dsimp only
   obtain ⟨n,hn⟩:=(hm e0).2 (.inr ho)
   rw [hn]
   dsimp only
   split
   ·split
    ·rename_i h1
     have hl:=qa h1
     obtain ⟨x,e1⟩:=at1 (by lia)
     obtain ⟨y,e2⟩:=at2 hl
     rw [e1,e2]
     exact ⟨_,rfl⟩
    ·exact ⟨_,rfl⟩
   ·exact ⟨_,rfl⟩
  ·show ∃res,twoM rs i=some res
   unfold twoM
   split
   ·rename_i h1
    have hl:=qa h1
    obtain ⟨y,e1⟩:=at1 (by lia)
    obtain ⟨x,e2⟩:=at2 hl
    rw [e0,e1,e2]
    dsimp only
    have hp:=ZU h1 e2 e1
    have px:=(hm e2).1 hp.1
    have py:=(hm e1).1 hp.2
    rw [kq ⟨(zM px).1,(zM py).1⟩]
    obtain ⟨r1,r2,e,hs⟩:=Q3 ht px py
    rw [e]
    dsimp only
    rw [kq hs]
    exact ⟨_,rfl⟩
   ·exact ⟨_,rfl⟩
  ·show ∃res,ifA rs i=some res
   unfold ifA
   rw [e0]
   dsimp only
   split
   ·rename_i h1
    obtain ⟨x,e1⟩:=at1 h1
    rw [e1]
    dsimp only
    split
    ·exact ⟨_,rfl⟩
    ·split
     ·rename_i h2
      rw [kq (zM ((hm e1).1 (qL h2 e1))).1]
      exact ⟨_,rfl⟩
     ·exact ⟨_,rfl⟩
   ·exact ⟨_,rfl⟩
  ·show ∃res,orA rs i=some res
   unfold orA
   rw [e0]
   dsimp only
   split
   ·rename_i h1
    obtain ⟨x,e1⟩:=at1 h1
    rw [e1]
    dsimp only
    split
    ·rename_i h2
     rw [kq (zM ((hm e1).1 (qL h2 e1))).1]
     exact ⟨_,rfl⟩
    ·exact ⟨_,rfl⟩
   ·exact ⟨_,rfl⟩
def NG (rs:List Row):Prop:=∀i,i < rs.length→zQ rs i=some none
theorem z0J {v:V} {l:Int} (h:zP v=true):FRow ⟨"push",v,l⟩:=⟨fun _=>h,fun z=>by rcases z with z | z <;> exact absurd z (by show ¬(("push":Str)=_);decide+kernel)⟩
theorem JP:∀op∈(["jump","iftrue","iffalse"]:List Str),op≠"push"∧op≠"copy"∧op≠"swap":=by trivial
theorem J5 {op:Str} {v:V} {l:Int} (h:op∈(["jump","iftrue","iffalse"]:List Str)):FRow ⟨op,v,l⟩:=
 ⟨fun z=>absurd z (JP op h).1,fun z=>z.elim (fun z=>absurd z (JP op h).2.1) fun z=>absurd z (JP op h).2.2⟩
theorem qt.app {a b:List Row} (x:qt a) (y:qt b):qt (a++b):=fun r hr=>(kM.mp hr).elim (x r) (y r)
theorem qt.one {r:Row} (h:FRow r):qt [r]:=fun x hx=>by rw [kj.mp hx];exact h
theorem qt.two {r s:Row} (h:FRow r) (g:FRow s):qt [r,s]:=(qt.one h).app (qt.one g)
theorem qt.nil:qt []:=fun _ h=>by cases h
theorem qt.take {a:List Row} (h:qt a) (n:Nat):qt (a.take n):=fun r hr=>h r (List.mem_of_mem_take hr)
theorem z4m {many n:Nat} {r1 r2:V} {line:Int} {ins:List Row} (h:Qm many r1 r2 line=some (n,ins)):qt ins:=by
 unfold Qm at h
 split at h
 ·split at h
  ·rename_i hp
   cases h;exact .one (z0J hp)
  ·cases h
 ·cases h
theorem z7i {rs:List Row} (hF:qt rs) {i n:Nat} {ins:List Row} (h:zQ rs i=some (some (n,ins))):qt ins:=by
 have hm:∀{j:Nat} {r:Row},rs[j]?=some r→FRow r:=fun e=>hF _ (kz e)
 unfold zQ at h
 cases e0:rs[i]? with
 | none=>rw [e0] at h;cases h
 | some r=>
  rw [e0] at h
  dsimp only at h
  cases ht:tagT.lookup r.op with
  | none=>rw [ht] at h;cases h
  | some t=>
   rw [ht] at h
   match t,ht,h with
   | 0,ht,h=>cases h
   | _+8,ht,h=>cases h
   | 1,ht,h=>
    replace h:jA rs i=some (some (n,ins)):=h
    unfold jA at h
    split at h
    ·split at h
     ·split at h
      ·cases h;exact .nil
      ·cases h
     ·cases h
    ·cases h
   | 2,ht,h=>
    replace h:oneM rs i=some (some (n,ins)):=h
    unfold oneM at h
    split at h
    ·split at h
     ·split at h
      ·split at h
       ·split at h
        ·exact z4m (kr h)
        ·cases h
       ·cases h
      ·cases h
     ·cases h
    ·cases h
   | 3,ht,h=>
    replace h:jK rs i=some (some (n,ins)):=h
    unfold jK at h
    rw [e0] at h
    dsimp only at h
    split at h
    ·split at h
     ·split at h
      ·rename_i h1
       split at h
       ·rename_i x e1
        cases h
        exact .two (hm e1) (z0J ((hm e1).1 (qL h1 e1)))
       ·cases h
      ·cases h
     ·cases h
    ·cases h
   | 4,ht,h=>
    replace h:jy rs i=some (some (n,ins)):=h
    unfold jy at h
    rw [e0] at h
    dsimp only at h
    split at h
    ·split at h
     ·split at h
      ·split at h
       ·rename_i y x e1 e2
        cases h
        exact .two (hm e1) (hm e2)
       ·cases h
      ·cases h
     ·cases h
    ·cases h
   | 5,ht,h=>
    replace h:twoM rs i=some (some (n,ins)):=h
    unfold twoM at h
    split at h
    ·split at h
     ·split at h
      ·split at h
       ·split at h
        ·exact z4m (kr h)
        ·cases h
       ·cases h
      ·cases h
     ·cases h
    ·cases h
   | 6,ht,h=>
    replace h:ifA rs i=some (some (n,ins)):=h
    unfold ifA at h
    rw [e0] at h
    dsimp only at h
    split at h
    ·split at h
     ·split at h
      ·split at h
       ·cases h
        refine .one (J5 ?_)
        unfold jC
        split <;> decide+kernel
       ·cases h
      ·split at h
       ·split at h
        ·cases h
         split
         ·exact .one (J5 (by trivial))
         ·exact .nil
        ·cases h
       ·cases h
     ·cases h
    ·cases h
   | 7,ht,h=>
    replace h:orA rs i=some (some (n,ins)):=h
    unfold orA at h
    rw [e0] at h
    dsimp only at h
    split at h
    ·split at h
     ·rename_i x e1
      split at h
      ·split at h
       ·cases h
        split
        ·exact .two (hm e1) (J5 (by trivial))
        ·exact .nil
       ·cases h
      ·cases h
     ·cases h
    ·cases h
theorem z4r {rs:List Row} {m i:Nat} (h:i < (rs.take m).length):zQ (rs.take m) i=zQ rs i:=by
 have:=ZO (a:=rs.take m) (b:=rs.drop m) h
 rw [List.take_append_drop] at this
 exact this.symm
theorem z7b:∀(k:Nat) (rs:List Row) (res:Option (Nat × List Row)),qt rs→1≤rs.length→rs.length≤k+1→zQ rs (rs.length - 1)=some res→(∀i,i+1 < rs.length→zQ rs i=some none)→∃out,qR k rs res=some out∧NG out∧qt out∧out.length≤rs.length:=by
 intro k
 induction k with
 | zero=>
  intro rs res hF h1 hk hf hN
  cases res with
  | none=>exact ⟨rs,by unfold qR;rfl,fun i hi=>(show i=rs.length - 1 by lia)▸hf,hF,kc _⟩
  | some z=>
   obtain ⟨n,ins⟩:=z
   exfalso
   cases QA hf <;> lia
 | succ k ih=>
  intro rs res hF h1 hk hf hN
  cases res with
  | none=>
   refine ⟨rs,by unfold qR;rfl,fun i hi=>?_,hF,kc _⟩
   by_cases z:i+1 < rs.length
   ·exact hN i z
   ·have:i=rs.length - 1:=by lia
    rw [this]
    exact hf
  | some z=>
   obtain ⟨n,ins⟩:=z
   have hfr:=z7i hF hf
   have lt:∀{m},m≤rs.length→(rs.take m).length=m:=fun {m} h=>by rw [List.length_take];lia
   have old:∀{m i:Nat},m+2≤rs.length→i < m→zQ (rs.take m) i=some none:=fun {m i} hm hi=>by
    rw [z4r (by rw [lt (by lia)];exact hi)]
    exact hN i (by lia)
   have fin:∀(new:List Row),2≤n→n≤rs.length→new=putW rs n ins→ins.length≤n→¬(ins.isEmpty=true)→(∀i,rs.length - n≤i→i < new.length→∃r,new[i]?=some r∧tagT.lookup r.op=none)→∃out,qR (k+1) rs (some (n,ins))=some out∧NG out∧qt out∧out.length≤rs.length:=by
    intro new h2 hn e hl he hnew
    have hlen:new.length=rs.length - n+ins.length:=by rw [e];unfold putW;rw [kh,lt (by lia)]
    have hpos:1≤ins.length:=by
     cases ins with
     | nil=>exact absurd rfl he
     | cons a b=>simp
    refine ⟨new,?_,fun i hi=>?_,?_,by lia⟩
    ·unfold qR
     rw [kq ⟨by lia,hn,hl⟩,ko he,←e]
     obtain ⟨r,e1,e2⟩:=hnew (new.length - 1) (by lia) (by lia)
     rw [ZB e1 e2]
     dsimp only
     cases k <;> (unfold qR;rfl)
    ·by_cases z:i < rs.length - n
     ·rw [e]
      unfold putW
      rw [ZO (by rw [lt (by lia)];exact z)]
      exact old (by lia) z
     ·obtain ⟨r,e1,e2⟩:=hnew i (by lia) hi
      exact ZB e1 e2
    ·rw [e]
     exact (hF.take _).app hfr
   cases QA hf with
   | gone h2 hn=>
    have hn:n≤rs.length:=by lia
    refine ⟨putW rs n [],?_,fun i hi=>?_,?_,?_⟩
    ·unfold qR
     rw [kq ⟨by lia,hn,Nat.zero_le _⟩]
     exact kq rfl
    ·unfold putW at hi ⊢
     rw [kO] at hi ⊢
     rw [lt (by lia)] at hi
     exact old (by lia) hi
    ·exact (hF.take _).app .nil
    ·unfold putW
     rw [kO,lt (by lia)]
     lia
   | one h2 hn hr=>
    refine fin _ h2 (by lia) rfl (by show 1≤n;lia) (by exact ka) fun i h3 h4=>?_
    unfold putW at h4 ⊢
    rw [kh,lt (by lia)] at h4
    have:i=(rs.take (rs.length - n)).length:=by rw [lt (by lia)];simp at h4;lia
    exact ⟨_,by rw [this,yb (kc _),Nat.sub_self];rfl,hr⟩
   | two h2 hn hx hr=>
    refine fin _ h2 (by lia) rfl (by show 2≤n;lia) (by exact ka) fun i h3 h4=>?_
    unfold putW at h4 ⊢
    rw [kh,lt (by lia)] at h4
    by_cases z:i=rs.length - n
    ·exact ⟨_,by rw [yb (by rw [lt (by lia)];lia),lt (by lia),z,Nat.sub_self];rfl,by rw [hx];exact Qr⟩
    ·have:i - (rs.length - n)=1:=by simp at h4;lia
     exact ⟨_,by rw [yb (by rw [lt (by lia)];lia),lt (by lia),this];rfl,hr⟩
   | way hn hr=>
    rename_i r
    have hlen:(putW rs 2 [r]).length=rs.length - 1:=by unfold putW;rw [kh,lt (by lia)];simp;lia
    have hFn:qt (putW rs 2 [r]):=(hF.take _).app hfr
    obtain ⟨res,hres⟩:=ZN hFn (i:=(putW rs 2 [r]).length - 1) (by lia)
    obtain ⟨out,o1,o2,o3,o4⟩:=ih _ res hFn (by lia) (by lia) hres fun i hi=>by
     unfold putW
     rw [ZO (by rw [lt (by lia)];lia)]
     exact old (by lia) (by lia)
    refine ⟨out,?_,o2,o3,by lia⟩
    unfold qR
    rw [kq ⟨by decide,by lia,by show 1≤2;decide⟩,ko (by exact ka),hres]
    exact o1
theorem z6K {acc:List Row} {r:Row} (hN:NG acc) (hF:qt (acc++[r])):∃out,QG acc r=some out∧NG out∧qt out∧out.length≤acc.length+1:=by
 have hl:(acc++[r]).length=acc.length+1:=by rw [kh];rfl
 obtain ⟨res,hres⟩:=ZN hF (i:=acc.length) (by lia)
 obtain ⟨out,o1,o2,o3,o4⟩:=z7b (acc.length+1) (acc++[r]) res hF (by lia) (by lia) (by rw [hl];exact hres) fun i hi=>by
  rw [ZO (by lia)]
  exact hN i (by lia)
 exact ⟨out,by unfold QG;rw [hres];exact o1,o2,o3,by lia⟩
theorem z4p:∀(rs acc:List Row),NG acc→qt acc→qt rs→∃out,qx acc rs=some out∧NG out∧qt out∧out.length≤acc.length+rs.length:=by
 intro rs
 induction rs with
 | nil=>exact fun acc h1 h2 _=>⟨acc,rfl,h1,h2,by simp⟩
 | cons r rs ih=>
  intro acc h1 h2 h3
  obtain ⟨a,w1,w2,w3,w4⟩:=z6K h1 (h2.app (.one (h3 r (kK ..))))
  obtain ⟨out,o1,o2,o3,o4⟩:=ih a w2 w3 fun x hx=>h3 x (kL _ hx)
  refine ⟨out,?_,o2,o3,by rw [kJ];lia⟩
  unfold qx
  rw [w1]
  dsimp only
  rw [kq w4]
  exact o1
theorem J6:∀(rs acc:List Row),NG (acc++rs)→qx acc rs=some (acc++rs):=by
 intro rs
 induction rs with
 | nil=>intro acc _;rw [kO];rfl
 | cons r rs ih=>
  intro acc h
  have e:acc++r :: rs=(acc++[r])++rs:=by rw [kP];rfl
  have hl:(acc++[r]).length=acc.length+1:=by rw [kh];rfl
  rw [e] at h ⊢
  have h0:zQ (acc++[r]) acc.length=some none:=by
   rw [←ZO (b:=rs) (by lia)]
   exact h _ (by rw [kh];lia)
  unfold qx QG
  rw [h0]
  dsimp only
  have:qR (acc.length+1) (acc++[r]) none=some (acc++[r]):=by unfold qR;rfl
  rw [this]
  dsimp only
  rw [kq (by lia)]
  exact ih _ h
theorem z4R {Γ:Int→Option Sta} {r:Row} {s:Sta} {e:Option Sta} (hl:r.op≠"label") (h:chk Γ [r] (some s)=some e):qE r s=true∧(∀t∈tgts r s,Γ t.1=some t.2)∧e=jT r s:=by
 rw [jD,ko hl] at h
 dsimp only at h
 by_cases hz:qE r s=true∧(tgts r s).all (fun t=>decide (Γ t.1=some t.2))=true
 ·rw [kq hz] at h
  exact ⟨hz.1,fun t ht=>ku (List.all_eq_true.mp hz.2 t ht),(kr h).symm⟩
 ·rw [ko hz] at h;cases h
theorem z68 {Γ:Int→Option Sta}:∀(l:List Row) (c e:Option Sta),chk Γ l c=some e→∃e',chk Γ l none=some e'∧(e'=e∨e'=none):=by
 intro l
 induction l with
 | nil=>exact fun c e h=>⟨none,rfl,.inr rfl⟩
 | cons r l ih=>
  intro c e h
  rw [jD] at h ⊢
  by_cases hl:r.op="label"
  ·rw [kq hl] at h ⊢
   cases hg:Γ (argM r.arg) with
   | none=>
    rw [hg] at h
    cases c with
    | none=>exact ⟨e,h,.inl rfl⟩
    | some s=>cases h
   | some s=>
    rw [hg] at h
    cases c with
    | none=>exact ⟨e,h,.inl rfl⟩
    | some s'=>
     dsimp only at h ⊢
     by_cases hz:s=s'∧qE r s=true
     ·rw [kq hz] at h
      rw [kq hz.2]
      exact ⟨e,h,.inl rfl⟩
     ·rw [ko hz] at h;cases h
  ·rw [ko hl] at h ⊢
   cases c with
   | none=>exact ⟨e,h,.inl rfl⟩
   | some s=>
    dsimp only at h ⊢
    split at h
    ·exact ih _ e h
    ·cases h
theorem z69 {Γ:Int→Option Sta} {l:List Row} {c c' e:Option Sta} (h:chk Γ l c=some e) (hc:c'=c∨c'=none):∃e',chk Γ l c'=some e'∧(e'=e∨e'=none):=by
 rcases hc with rfl | rfl
 ·exact ⟨e,h,.inl rfl⟩
 ·exact z68 l c e h
theorem z22 {r:Row} {d:Int} {gs:List Gd} (h:qE r (d,gs)=true) (h0:0≤qi r):0≤d∧qi r≤d∧gs.length≤1000:=by
 unfold qE at h
 simp only [kX,Bool.not_eq_true',decide_eq_false_iff_not,kY] at h
 have:=h.1.1.1
 have:=h.2
 exact ⟨by lia,by lia,this⟩
theorem ok0 {r:Row} {d:Int} {gs:List Gd} (h0:0≤d) (h1:qi r=0) (h2:r.op≠"endtry") (h3:gs.length≤1000):qE r (d,gs)=true:=by
 unfold qE Q5
 have e1:decide (d < qi r)=false:=ke (by lia)
 have e2:qI r d gs.getLast?=false:=by
  unfold qI
  cases e:gs.getLast? with
  | none=>rfl
  | some g=>
   dsimp only
   split
   ·rfl
   ·refine ke ?_
    rw [h1]
    split <;> split <;> lia
 show (!decide (d < qi r)&& !(decide (r.op="endtry")&&gs.getLast?.isNone)&& !qI r d gs.getLast?&&decide (gs.length≤1000))=true
 rw [e1,e2,ke h2,kf h3]
 rfl
structure Str1 (r:Row) (b:Int):Prop where
 lab:r.op≠"label"
 asked:0≤qi r
 next:∀d gs,jT r (d,gs)=some (d+b,gs)
theorem jQ.str1 {op:Str} {a b:Int} (h:jQ op a b) (ha:0≤a) (arg:V) (l:Int):Str1 ⟨op,arg,l⟩ (b - a):=by
 refine ⟨h.lab,by rw [h.asked];exact ha,fun d gs=>?_⟩
 unfold jT qr
 rw [ko (by rw [h.on];exact ka),h.takes,h.pushes,h.gput]
 have e:d - a+b=d+(b - a):=by lia
 show some (d - a+b,qC _ d gs 0)=_
 rw [e,gs0]
theorem Deep.str1 {op:Str} {b:Int} (h:Deep op b) {n:Int} (hn:0≤n) (l:Int):Str1 ⟨op,.int n,l⟩ b:=by
 refine ⟨h.lab,?_,fun d gs=>?_⟩
 ·unfold qi
  rw [kq h.deep]
  exact hn
 unfold jT qr
 rw [ko (by rw [h.on];exact ka),h.takes,h.pushes,h.gput]
 have e:d - 0+b=d+b:=by lia
 show some (d - 0+b,qC _ d gs 0)=_
 rw [e,gs0]
theorem Str1.go {Γ:Int→Option Sta} {r:Row} {b:Int} (h:Str1 r b) {c e:Option Sta} (hc:chk Γ [r] c=some e):(c=none∧e=none)∨∃d gs,c=some (d,gs)∧e=some (d+b,gs)∧0≤d∧gs.length≤1000:=by
 cases c with
 | none=>rw [zC h.lab] at hc;exact .inl ⟨rfl,(kr hc).symm⟩
 | some s=>
  obtain ⟨d,gs⟩:=s
  obtain ⟨h1,_,h3⟩:=z4R h.lab hc
  have f:=z22 h1 h.asked
  exact .inr ⟨d,gs,rfl,by rw [h3,h.next],f.1,f.2.2⟩
theorem z5f:jQ "quick" 0 1:=⟨by trivial,by trivial,by trivial,by trivial,by trivial,by trivial,by trivial,by trivial⟩
theorem QP {Γ:Int→Option Sta} {r:Row} (hr:r.op="push") {d:Int} {gs:List Gd} (h0:0≤d) (hz:gs.length≤1000):chk Γ [r] (some (d,gs))=some (some (d+1,gs)):=by
 obtain ⟨op,arg,l⟩:=r
 subst hr
 rw [jg jf.lab (ok0 h0 (jf.asked arg l) jf.et hz) fun t ht=>?_,(jf.str1 (by decide) arg l).next]
 ·rfl
 ·have:tgts ⟨"push",arg,l⟩ (d,gs)=[]:=by
   unfold tgts
   rw [ko (by rw [jf.jump];exact ka),ko (by show ¬(inT "push" faulting=true);decide+kernel)]
   rfl
  rw [this] at ht
  cases ht
def Ch (g ins:List Row):Prop:=∀(Γ:Int→Option Sta) (c e:Option Sta),chk Γ g c=some e→∃e',chk Γ ins c=some e'∧(e'=e∨e'=none)
theorem Z7 {Γ:Int→Option Sta} {x r:Row} {c e:Option Sta} (h:chk Γ [x,r] c=some e):∃m,chk Γ [x] c=some m∧chk Γ [r] m=some e:=by
 have:=zq Γ [x] [r] c
 rw [show [x]++[r]=[x,r] from rfl,h] at this
 cases hm:chk Γ [x] c with
 | none=>rw [hm] at this;cases this
 | some m=>rw [hm] at this;exact ⟨m,rfl,this.symm⟩
theorem Zi {Γ:Int→Option Sta} {x r:Row} {c m e:Option Sta} (h1:chk Γ [x] c=some m) (h2:chk Γ [r] m=some e):chk Γ [x,r] c=some e:=by
 have:=zq Γ [x] [r] c
 rw [show [x]++[r]=[x,r] from rfl,h1] at this
 rw [this]
 exact h2
theorem z0U {Γ:Int→Option Sta} {x y r:Row} {c e:Option Sta} (h:chk Γ [x,y,r] c=some e):∃m n,chk Γ [x] c=some m∧chk Γ [y] m=some n∧chk Γ [r] n=some e:=by
 have:=zq Γ [x] [y,r] c
 rw [show [x]++[y,r]=[x,y,r] from rfl,h] at this
 cases hm:chk Γ [x] c with
 | none=>rw [hm] at this;cases this
 | some m=>
  rw [hm] at this
  obtain ⟨n,h1,h2⟩:=Z7 (show chk Γ [y,r] m=some e from this.symm)
  exact ⟨m,n,rfl,h1,h2⟩
theorem ZA {Γ:Int→Option Sta} {r:Row} (hr:r.op="push"):chk Γ [r] none=some none:=zC (by rw [hr];exact jf.lab)
theorem j5 {r:Row} (hr:r.op="push"):Str1 r 1:=by
 obtain ⟨op,arg,l⟩:=r
 subst hr
 exact jf.str1 (by decide) arg l
theorem z7L {x r:Row} {b:Int} (hx:Str1 x b) (hr:Str1 r (-b)):Ch [x,r] []:=by
 intro Γ c e h
 obtain ⟨m,h1,h2⟩:=Z7 h
 rcases hx.go h1 with ⟨rfl,rfl⟩ | ⟨d,gs,rfl,rfl,h3,h4⟩
 ·exact ⟨none,rfl,.inr rfl⟩
 ·rcases hr.go h2 with ⟨e1,_⟩ | ⟨d',gs',e1,rfl,_⟩
  ·cases e1
  ·cases e1
   exact ⟨_,rfl,.inl (by rw [show d+b+ -b=d by lia])⟩
theorem z6b {x r y:Row} (hx:x.op="push") (hr:Str1 r 0) (hy:y.op="push"):Ch [x,r] [y]:=by
 intro Γ c e h
 obtain ⟨m,h1,h2⟩:=Z7 h
 rcases (j5 hx).go h1 with ⟨rfl,rfl⟩ | ⟨d,gs,rfl,rfl,h3,h4⟩
 ·exact ⟨none,ZA hy,.inr rfl⟩
 ·rcases hr.go h2 with ⟨e1,_⟩ | ⟨d',gs',e1,rfl,_⟩
  ·cases e1
  ·cases e1
   exact ⟨_,QP hy h3 h4,.inl (by rw [Int.add_zero])⟩
theorem z6a {x y r z:Row} (hx:x.op="push") (hy:y.op="push") (hr:Str1 r (-1)) (hz:z.op="push"):Ch [x,y,r] [z]:=by
 intro Γ c e h
 obtain ⟨m,n,h1,h2,h3⟩:=z0U h
 rcases (j5 hx).go h1 with ⟨rfl,rfl⟩ | ⟨d,gs,rfl,rfl,p1,p2⟩
 ·exact ⟨none,ZA hz,.inr rfl⟩
 ·rcases (j5 hy).go h2 with ⟨e1,_⟩ | ⟨d',gs',e1,rfl,_⟩
  ·cases e1
  ·cases e1
   rcases hr.go h3 with ⟨e1,_⟩ | ⟨d',gs',e1,rfl,_⟩
   ·cases e1
   ·cases e1
    exact ⟨_,QP hz p1 p2,.inl (by rw [show d+1+1+ -1=d+1 by lia])⟩
theorem z7M {x r y:Row} (hx:x.op="push") (hr:Str1 r 1) (hy:y.op="push"):Ch [x,r] [x,y]:=by
 intro Γ c e h
 obtain ⟨m,h1,h2⟩:=Z7 h
 rcases (j5 hx).go h1 with ⟨rfl,rfl⟩ | ⟨d,gs,rfl,rfl,h3,h4⟩
 ·exact ⟨none,Zi h1 (ZA hy),.inr rfl⟩
 ·rcases hr.go h2 with ⟨e1,_⟩ | ⟨d',gs',e1,rfl,p1,p2⟩
  ·cases e1
  ·cases e1
   exact ⟨_,Zi h1 (QP hy p1 p2),.inl rfl⟩
theorem z7K {x y r:Row} (hx:x.op="push") (hy:y.op="push") (hr:Str1 r 0):Ch [x,y,r] [y,x]:=by
 intro Γ c e h
 obtain ⟨m,n,h1,h2,h3⟩:=z0U h
 rcases (j5 hx).go h1 with ⟨rfl,rfl⟩ | ⟨d,gs,rfl,rfl,p1,p2⟩
 ·exact ⟨none,Zi (ZA hy) (ZA hx),.inr rfl⟩
 ·rcases (j5 hy).go h2 with ⟨e1,_⟩ | ⟨d',gs',e1,rfl,_⟩
  ·cases e1
  ·cases e1
   rcases hr.go h3 with ⟨e1,_⟩ | ⟨d',gs',e1,rfl,_⟩
   ·cases e1
   ·cases e1
    exact ⟨_,Zi (QP hy p1 p2) (QP hx (by lia) p2),.inl (by rw [Int.add_zero])⟩
noncomputable def ifs2:List Str:=["iftrue","iffalse"]
noncomputable def ors2:List Str:=["ortrue","orfalse"]
theorem z5t {r r':Row} {s:Sta} (h1:qi r=qi r') (h2:r.op≠"endtry") (h2':r'.op≠"endtry") (h3:r.op≠"copy") (h3':r'.op≠"copy"):qE r s=qE r' s:=by
 unfold qE Q5 qI
 rw [h1,ke h2,ke h2']
 cases s.2.getLast? with
 | none=>rfl
 | some g=>
  dsimp only
  rw [ko h3,ko h3']
theorem jN:∀op∈ifs2++ors2,op≠"label"∧op≠"endtry"∧op≠"copy"∧inT op jx=false∧inT op qG=false∧inT op jumping=true∧inT op faulting=false∧tabI qM op=1∧tabI qK op=0∧tabI qD op=0:=by trivial
theorem z7c:∀op∈ifs2,inT op leaving=false:=by trivial
theorem z9s:∀op∈ors2,inT op leaving=true:=by trivial
theorem Zh {r:Row} (h:r.op∈ifs2++ors2):qi r=1:=by
 have f:=jN r.op h
 unfold qi
 rw [ko (by rw [f.2.2.2.1];exact ka)]
 exact f.2.2.2.2.2.2.2.1
theorem z0S {r:Row} (h:r.op∈ifs2++ors2) (d:Int) (gs:List Gd):jT r (d,gs)=some (d - 1,gs):=by
 have f:=jN r.op h
 unfold jT qr
 rw [ko (by rw [f.2.2.2.2.1];exact ka),f.2.2.2.2.2.2.2.1,f.2.2.2.2.2.2.2.2.1,f.2.2.2.2.2.2.2.2.2]
 show some (d - 1+0,qC _ d gs 0)=_
 rw [gs0,Int.add_zero]
theorem z0R {r:Row} (h:r.op∈ifs2++ors2) (d:Int) (gs:List Gd):tgts r (d,gs)=[(argM r.arg,((if inT r.op leaving=true then d else d - 1),gs))]:=by
 have f:=jN r.op h
 unfold tgts qr
 rw [kq f.2.2.2.2.2.1,f.2.2.2.2.2.2.1,f.2.2.2.2.2.2.2.1,f.2.2.2.2.2.2.2.2.1]
 show [(argM r.arg,((if inT r.op leaving=true then d else d - 1+0),gs))]++[]=_
 rw [Int.add_zero,kO]
theorem z4i {Γ:Int→Option Sta} {arg:V} {l d:Int} {gs:List Gd} (h0:0≤d) (hz:gs.length≤1000) (hΓ:Γ (argM arg)=some (d,gs)):chk Γ [⟨"jump",arg,l⟩] (some (d,gs))=some none:=by
 have ha:qi ⟨"jump",arg,l⟩=0:=by
  unfold qi
  rw [ko (by show ¬(inT "jump" jx=true);decide+kernel)]
  show tabI qM "jump"=0
  decide+kernel
 have ht:tgts ⟨"jump",arg,l⟩ (d,gs)=[(argM arg,(d,gs))]:=by
  unfold tgts qr
  rw [kq (by show inT "jump" jumping=true;decide+kernel),ko (by show ¬(inT "jump" leaving=true);decide+kernel),ko (by show ¬(inT "jump" faulting=true);decide+kernel)]
  have e1:tabI qM "jump"=0:=by trivial
  have e2:tabI qK "jump"=0:=by trivial
  show [(argM arg,(d - tabI qM "jump"+tabI qK "jump",gs))]++[]=_
  rw [e1,e2,kO,Int.sub_zero,Int.add_zero]
 rw [jg (show ("jump":Str)≠"label" by trivial) (ok0 h0 ha (show ("jump":Str)≠"endtry" by trivial) hz) fun t h=>?_]
 ·unfold jT
  rw [kq (by show inT "jump" qG=true;decide+kernel)]
 ·rw [ht] at h
  rw [kj.mp h]
  exact hΓ
theorem z26 {Γ:Int→Option Sta} {arg:V} {l:Int}:chk Γ [⟨"jump",arg,l⟩] none=some none:=zC (show ("jump":Str)≠"label" by trivial)
theorem JY {Γ:Int→Option Sta} {r:Row} (h:r.op∈ifs2++ors2) {c e:Option Sta} (hc:chk Γ [r] c=some e):(c=none∧e=none)∨∃d gs,c=some (d,gs)∧e=some (d - 1,gs)∧qE r (d,gs)=true∧1≤d∧gs.length≤1000∧Γ (argM r.arg)=some ((if inT r.op leaving=true then d else d - 1),gs):=by
 have f:=jN r.op h
 cases c with
 | none=>rw [zC f.1] at hc;exact .inl ⟨rfl,(kr hc).symm⟩
 | some s=>
  obtain ⟨d,gs⟩:=s
  obtain ⟨h1,h2,h3⟩:=z4R f.1 hc
  have g:=z22 h1 (by rw [Zh h];decide)
  rw [Zh h] at g
  rw [z0R h] at h2
  exact .inr ⟨d,gs,rfl,by rw [h3,z0S h],h1,g.2.1,g.2.2,h2 _ (kj.mpr rfl)⟩
theorem Z5 {op:Str} (h:op∈ifs2):op∈ifs2++ors2:=kI _ h
theorem z48 {op:Str} (h:op∈ors2):op∈ifs2++ors2:=kH _ h
theorem z4U {x r:Row} (hx:x.op="push") (hr:r.op∈ifs2++ors2):Ch [x,r] []:=by
 intro Γ c e h
 obtain ⟨m,h1,h2⟩:=Z7 h
 rcases (j5 hx).go h1 with ⟨rfl,rfl⟩ | ⟨d,gs,rfl,rfl,h3,h4⟩
 ·exact ⟨none,rfl,.inr rfl⟩
 ·rcases JY hr h2 with ⟨e1,_⟩ | ⟨d',gs',e1,rfl,_⟩
  ·cases e1
  ·cases e1
   exact ⟨_,rfl,.inl (by rw [show d+1 - 1=d by lia])⟩
theorem z4T {x r:Row} (hx:x.op="push") (hr:r.op∈ifs2) {l:Int}:Ch [x,r] [⟨"jump",r.arg,l⟩]:=by
 intro Γ c e h
 obtain ⟨m,h1,h2⟩:=Z7 h
 rcases (j5 hx).go h1 with ⟨rfl,rfl⟩ | ⟨d,gs,rfl,rfl,h3,h4⟩
 ·exact ⟨none,z26,.inr rfl⟩
 ·rcases JY (Z5 hr) h2 with ⟨e1,_⟩ | ⟨d',gs',e1,rfl,_,_,_,hΓ⟩
  ·cases e1
  ·cases e1
   rw [z7c _ hr,ko ka,show d+1 - 1=d by lia] at hΓ
   exact ⟨none,z4i h3 h4 hΓ,.inr rfl⟩
theorem z4S {x r:Row} (hx:x.op="push") (hr:r.op∈ors2) {l:Int}:Ch [x,r] [x,⟨"jump",r.arg,l⟩]:=by
 intro Γ c e h
 obtain ⟨m,h1,h2⟩:=Z7 h
 rcases (j5 hx).go h1 with ⟨rfl,rfl⟩ | ⟨d,gs,rfl,rfl,h3,h4⟩
 ·exact ⟨none,Zi h1 z26,.inr rfl⟩
 ·rcases JY (z48 hr) h2 with ⟨e1,_⟩ | ⟨d',gs',e1,rfl,_,_,_,hΓ⟩
  ·cases e1
  ·cases e1
   rw [z9s _ hr,kq rfl] at hΓ
   exact ⟨none,Zi h1 (z4i (by lia) h4 hΓ),.inr rfl⟩
theorem z0n:∀op∈ifs2,jC op∈ifs2:=by trivial
theorem z8Z {x r:Row} (hx:Str1 x 0) (hr:r.op∈ifs2) {l:Int}:Ch [x,r] [⟨jC r.op,r.arg,l⟩]:=by
 intro Γ c e h
 have ho:=z0n _ hr
 have f:=jN _ (Z5 ho)
 have f0:=jN _ (Z5 hr)
 obtain ⟨m,h1,h2⟩:=Z7 h
 rcases hx.go h1 with ⟨rfl,rfl⟩ | ⟨d,gs,rfl,rfl,h3,h4⟩
 ·exact ⟨none,zC f.1,.inr rfl⟩
 ·rcases JY (Z5 hr) h2 with ⟨e1,_⟩ | ⟨d',gs',e1,rfl,hok,_,_,hΓ⟩
  ·cases e1
  ·cases e1
   rw [Int.add_zero] at hok hΓ ⊢
   rw [z7c _ hr,ko ka] at hΓ
   refine ⟨some (d - 1,gs),?_,.inl rfl⟩
   rw [jg f.1 ?_ fun t ht=>?_,z0S (Z5 ho)]
   ·rw [←z5t (r:=r) (by rw [Zh (Z5 hr),Zh (Z5 ho)]) f0.2.1 f.2.1 f0.2.2.1 f.2.2.1]
    exact hok
   ·rw [z0R (Z5 ho)] at ht
    rw [kj.mp ht]
    show Γ (argM r.arg)=some ((if inT (jC r.op) leaving=true then d else d - 1),gs)
    rw [z7c _ ho,ko ka]
    exact hΓ
theorem QH {rs:List Row} {i:Nat} {r:Row} (e:rs[i]?=some r):rs.take (i+1)=rs.take i++[r]:=by
 rw [List.take_add_one,e]
 rfl
theorem jk {rs:List Row} {i:Nat} {x r:Row} (h1:1≤i) (hi:i+1=rs.length) (e0:rs[i]?=some r) (e1:rs[i - 1]?=some x):rs=rs.take (rs.length - 2)++[x,r]:=by
 have h2:rs.take (i+1)=rs:=List.take_of_length_le (by lia)
 have h3:i - 1+1=i:=by lia
 have h4:=QH e1
 rw [h3] at h4
 have h5:=QH e0
 rw [h2,h4,kP] at h5
 rw [show rs.length - 2=i - 1 by lia]
 exact h5
theorem Jq {rs:List Row} {i:Nat} {x y r:Row} (h1:2≤i) (hi:i+1=rs.length) (e0:rs[i]?=some r) (e1:rs[i - 1]?=some y) (e2:rs[i - 2]?=some x):rs=rs.take (rs.length - 3)++[x,y,r]:=by
 have h2:rs.take (i+1)=rs:=List.take_of_length_le (by lia)
 have h4:=QH e1
 rw [show i - 1+1=i by lia] at h4
 have h5:=QH e0
 have h6:=QH e2
 rw [show i - 2+1=i - 1 by lia] at h6
 rw [h2,h4,h6,kP,kP] at h5
 rw [show rs.length - 3=i - 2 by lia]
 exact h5
theorem lab0 {r:Row} (h:r.op≠"label") (m:Nat):lab m [r]=0:=by
 unfold lab
 rw [List.countP_singleton]
 have:J2 m r=false:=by unfold J2;rw [ke h,Bool.false_and]
 rw [this]
 rfl
theorem use0 {r:Row} (h:zR r.op≠some ("mark":Str)) (m:Nat):use m [r]=0:=by
 unfold use
 rw [List.countP_singleton]
 have:ZK m r=false:=by unfold ZK;rw [ke h,Bool.false_and,Bool.false_and]
 rw [this]
 rfl
theorem z3f {r r':Row} (h:zR r.op=some ("mark":Str)) (h':zR r'.op=some ("mark":Str)) (hl:r.op≠"label") (hl':r'.op≠"label") (ha:r.arg=r'.arg) (m:Nat):use m [r]=use m [r']:=by
 unfold use
 rw [List.countP_singleton,List.countP_singleton]
 have:ZK m r=ZK m r':=by unfold ZK;rw [kf h,kf h',kf hl,kf hl',ha]
 rw [this]
structure Grp (g ins:List Row):Prop where
 ch:Ch g ins
 lg:∀m,lab m g=0
 li:∀m,lab m ins=0
 us:∀m,use m ins≠0→use m g≠0
 ok:AllG ins
theorem j7 (m:Nat) (x y:Row):lab m [x,y]=lab m [x]+lab m [y]:=zN m [x] [y]
theorem z4c (m:Nat) (x y z:Row):lab m [x,y,z]=lab m [x]+lab m [y]+lab m [z]:=by
 rw [show [x,y,z]=[x,y]++[z] from rfl,zN,j7]
theorem Zb (m:Nat) (x y:Row):use m [x,y]=use m [x]+use m [y]:=jm m [x] [y]
theorem jB {r:Row} (h:r.op="push") (m:Nat):lab m [r]=0:=lab0 (by rw [h];exact jf.lab) m
theorem Qb {r:Row} (h:r.op="push") (m:Nat):use m [r]=0:=use0 (by rw [h];decide+kernel) m
theorem QL {v:V} {l:Int} (hp:zP v=true) (ho:okV v=true) (h0:0≤l) (h1:l≤9999):RowG ⟨"push",v,l⟩:=(Ja hp ho).rowG h0 h1
theorem z3L {r:Row} (h:RowG r):0≤r.line∧r.line≤9999:=by
 obtain ⟨_,_,h0,h1,_⟩:=h
 exact ⟨h0,h1⟩
theorem Jl {r:Row} (h:RowG r) (hp:r.op="push"):okV r.arg=true∧zP r.arg=true:=by
 obtain ⟨s,hs,_,_,ho,hx⟩:=h
 refine ⟨ho hp,?_⟩
 rw [hp,show zR "push"=some ("value":Str) by trivial] at hs
 cases hs
 rcases hx with ⟨e,_⟩ | ⟨_,e⟩
 ·exact absurd e (by trivial)
 ·unfold jc at e
  rw [kq rfl] at e
  exact e
theorem Jh {op:Str} {k:Nat} (h:tagT.lookup op=some k):(op="drop"∧k=1)∨(op∈(["neg","not"]:List Str)∧k=2)∨(op="copy"∧k=3)∨(op="swap"∧k=4)∨(op∈(["add","sub","mul","div","rest","less","same"]:List Str)∧k=5)∨(op∈ifs2∧k=6)∨(op∈ors2∧k=7):=by
 have hm:=PySem.mem_of_lookup h
 simp only [tagT,kw,Prod.mk.injEq,kl,or_false] at hm
 rcases hm with z | z | z | z | z | z | z | z | z | z | z | z | z | z | z | z
 all_goals obtain ⟨rfl,rfl⟩:=z
 all_goals decide+kernel
theorem z8t {v:V} (h:zP v=true) (hs:∀z,v≠.str z):okV v=true:=by
 cases v with
 | non=>rfl
 | bl b=>rfl
 | int i=>
  show (!big i)=true
  rw [(zM h).2 i rfl]
  rfl
 | str z=>exact absurd rfl (hs z)
 | _=>exact absurd (zM h).1 (by exact ka)
theorem z4a {op:Str} {x r2:V} (h:J0 op x=some (.non,r2)):∀z,r2≠.str z:=by
 unfold J0 at h
 split at h
 ·cases h;exact fun _ e=>by cases e
 ·cases x <;> cases h <;> exact fun _ e=>by cases e
theorem z0z {op:Str} {x y r2:V} (h:jz op x y=some (.non,r2)):∀z,r2≠.str z:=by
 unfold jz at h
 split at h
 ·cases h;exact fun _ e=>by cases e
 ·split at h
  ·split at h
   ·cases h
   ·split at h
    ·cases h
    ·split at h
     ·cases h
     ·split at h
      ·cases h;exact fun _ e=>by cases e
      ·split at h
       ·split at h
        ·cases h
        ·cases h;exact fun _ e=>by cases e
       ·cases h
  ·cases h
theorem jV {many n:Nat} {r1 r2:V} {line:Int} {ins:List Row} (h:Qm many r1 r2 line=some (n,ins)):r1=.non∧zP r2=true∧n=many∧ins=[⟨"push",r2,line⟩]:=by
 unfold Qm at h
 split at h
 ·rename_i e
  split at h
  ·rename_i hp
   cases h;exact ⟨e,hp,rfl,rfl⟩
  ·cases h
 ·cases h
theorem z1O {r:Row} (h:r.op="drop"):Str1 r (-1):=by
 obtain ⟨op,arg,l⟩:=r
 subst h
 exact (j3 "drop" (by simp)).str1 (by decide) arg l
theorem z19 {r:Row} (h:r.op∈(["neg","not"]:List Str)):Str1 r 0:=by
 obtain ⟨op,arg,l⟩:=r
 exact (z1W op h).str1 (by decide) arg l
theorem z3n {r:Row} (h:r.op∈(["add","sub","mul","div","rest","less","same"]:List Str)):Str1 r (-1):=by
 obtain ⟨op,arg,l⟩:=r
 exact (ZD op h).str1 (by decide) arg l
theorem z0y:∀op∈(("jump":Str) :: (ifs2++ors2)),op≠"label"∧zR op=some ("mark":Str):=by trivial
theorem QB {r:Row} (h:RowG r) (hc:r.op="copy"∨r.op="swap"):∃n:Int,r.arg=.int n∧0≤n:=by
 obtain ⟨s,hs,_,_,_,hx⟩:=h
 have hw:ql r.arg 0 9=true∨ql r.arg 1 9=true∨ql r.arg 2 9=true:=by
  rcases hc with e | e
  ·rw [e,show zR "copy"=some ("copied":Str) by trivial] at hs
   cases hs
   rcases hx with ⟨e,_⟩ | ⟨_,e⟩
   ·exact absurd e (by trivial)
   ·exact .inr (.inl (by unfold jc at e;rw [ko (by trivial),ko (by trivial),kq rfl] at e;exact e))
  ·rw [e,show zR "swap"=some ("swapped":Str) by trivial] at hs
   cases hs
   rcases hx with ⟨e,_⟩ | ⟨_,e⟩
   ·exact absurd e (by trivial)
   ·exact .inr (.inr (by unfold jc at e;rw [ko (by trivial),ko (by trivial),ko (by trivial),kq rfl] at e;exact e))
 cases hv:r.arg with
 | int n=>
  rw [hv] at hw
  refine ⟨n,rfl,?_⟩
  unfold ql at hw
  simp only [kX,kY] at hw
  lia
 | _=>rw [hv] at hw;rcases hw with h | h | h <;> cases h
theorem J4 {g:List Row} {y:Row} (ch:Ch g [y]) (lg:∀m,lab m g=0) (hy:y.op="push") (hok:RowG y):Grp g [y]:=
 ⟨ch,lg,jB hy,fun m h=>absurd (Qb hy m) h,AllG.one hok⟩
theorem AllG.pair {x y:Row} (hx:RowG x) (hy:RowG y):AllG [x,y]:=(AllG.one hx).app (AllG.one hy)
theorem QM {r:Row} (h:RowG r) (hr:zR r.op=some ("mark":Str)) {op:Str} (ho:zR op=some ("mark":Str)):RowG ⟨op,r.arg,r.line⟩:=by
 obtain ⟨s,hs,h0,h1,_,hx⟩:=h
 rw [hr] at hs
 cases hs
 refine ⟨"mark",ho,h0,h1,fun z=>absurd (show zR "push"=some ("mark":Str) from (show op="push" from z)▸ho) (by trivial),?_⟩
 rcases hx with ⟨_,m,e⟩ | ⟨e,_⟩
 ·exact .inl ⟨rfl,m,e⟩
 ·exact absurd rfl e
theorem z2e {rs:List Row} (hG:AllG rs) {i n:Nat} {ins:List Row} (hi:i+1=rs.length) (h:zQ rs i=some (some (n,ins))):∃g,rs=rs.take (rs.length - n)++g∧Grp g ins:=by
 have hm:∀{j:Nat} {r:Row},rs[j]?=some r→RowG r:=fun e=>hG _ (kz e)
 unfold zQ at h
 cases e0:rs[i]? with
 | none=>rw [e0] at h;cases h
 | some r=>
  rw [e0] at h
  dsimp only at h
  have gl:=z3L (hm e0)
  cases ht:tagT.lookup r.op with
  | none=>rw [ht] at h;cases h
  | some t=>
   rw [ht] at h
   rcases Jh ht with ⟨ho,rfl⟩ | ⟨ho,rfl⟩ | ⟨ho,rfl⟩ | ⟨ho,rfl⟩ | ⟨ho,rfl⟩ | ⟨ho,rfl⟩ | ⟨ho,rfl⟩
   ·replace h:jA rs i=some (some (n,ins)):=h
    unfold jA at h
    split at h
    ·rename_i h1
     split at h
     ·rename_i x e1
      split at h
      ·rename_i hin
       cases h
       rw [jI] at hin
       have hx:Str1 x 1:=by
        obtain ⟨op,arg,l⟩:=x
        simp only [kw,kl,or_false] at hin
        rcases hin with z | z | z
        ·exact j5 z
        ·obtain ⟨k,ek,hk⟩:=QB (hm e1) (.inl z)
         have z:op="copy":=z
         have ek:arg=.int k:=ek
         subst z ek
         exact JV.str1 hk l
        ·have z:op="quick":=z
         subst z
         exact z5f.str1 (by decide) arg l
       exact ⟨_,jk h1 hi e0 e1,z7L hx (z1O ho),fun m=>by rw [j7,lab0 hx.lab,lab0 (z1O ho).lab],fun m=>rfl,fun m h=>absurd rfl h,AllG.nil⟩
      ·cases h
     ·cases h
    ·cases h
   ·replace h:oneM rs i=some (some (n,ins)):=h
    unfold oneM at h
    split at h
    ·rename_i h1
     have hl:=qa h1
     obtain ⟨x,e1⟩:∃x,rs[i - 1]?=some x:=⟨rs[i - 1],kF (by lia)⟩
     rw [e0,e1] at h
     dsimp only at h
     have hx:=qL h1 e1
     split at h
     ·split at h
      ·rename_i r1 r2 hmd
       split at h
       ·obtain ⟨rfl,hp,rfl,rfl⟩:=jV (kr h)
        exact ⟨_,jk hl hi e0 e1,J4 (z6b hx (z19 ho) rfl) (fun m=>by rw [j7,jB hx,lab0 (z19 ho).lab]) rfl (QL hp (z8t hp (z4a hmd)) gl.1 gl.2)⟩
       ·cases h
      ·cases h
     ·cases h
    ·cases h
   ·replace h:jK rs i=some (some (n,ins)):=h
    unfold jK at h
    rw [e0] at h
    dsimp only at h
    obtain ⟨k,ek,hk⟩:=QB (hm e0) (.inl ho)
    rw [ek] at h
    dsimp only at h
    split at h
    ·split at h
     ·rename_i h1
      have hl:=qa h1
      split at h
      ·rename_i x e1
       cases h
       have hx:=qL h1 e1
       have hv:=Jl (hm e1) hx
       have hr:Str1 r 1:=by
        obtain ⟨op,arg,l⟩:=r
        have ho:op="copy":=ho
        have ek:arg=.int k:=ek
        subst ho ek
        exact JV.str1 hk l
       exact ⟨_,jk hl hi e0 e1,z7M hx hr rfl,fun m=>by rw [j7,jB hx,lab0 hr.lab],fun m=>by rw [j7,jB hx,jB rfl],fun m h=>absurd (by rw [Zb,Qb hx,Qb rfl]) h,AllG.pair (hm e1) (QL hv.2 hv.1 gl.1 gl.2)⟩
      ·cases h
     ·cases h
    ·cases h
   ·replace h:jy rs i=some (some (n,ins)):=h
    unfold jy at h
    rw [e0] at h
    dsimp only at h
    obtain ⟨k,ek,hk⟩:=QB (hm e0) (.inr ho)
    rw [ek] at h
    dsimp only at h
    split at h
    ·split at h
     ·rename_i h1
      have hl:=qa h1
      split at h
      ·rename_i y x e1 e2
       cases h
       have hp:=ZU h1 e2 e1
       have hr:Str1 r 0:=by
        obtain ⟨op,arg,l⟩:=r
        have ho:op="swap":=ho
        have ek:arg=.int k:=ek
        subst ho ek
        exact z4C.str1 hk l
       exact ⟨_,Jq hl hi e0 e1 e2,z7K hp.1 hp.2 hr,fun m=>by rw [z4c,jB hp.1,jB hp.2,lab0 hr.lab],fun m=>by rw [j7,jB hp.1,jB hp.2],fun m h=>absurd (by rw [Zb,Qb hp.1,Qb hp.2]) h,AllG.pair (hm e1) (hm e2)⟩
      ·cases h
     ·cases h
    ·cases h
   ·replace h:twoM rs i=some (some (n,ins)):=h
    unfold twoM at h
    split at h
    ·rename_i h1
     have hl:=qa h1
     obtain ⟨y,e1⟩:∃y,rs[i - 1]?=some y:=⟨rs[i - 1],kF (by lia)⟩
     obtain ⟨x,e2⟩:∃x,rs[i - 2]?=some x:=⟨rs[i - 2],kF (by lia)⟩
     rw [e0,e1,e2] at h
     dsimp only at h
     have hp:=ZU h1 e2 e1
     split at h
     ·split at h
      ·rename_i r1 r2 hmd
       split at h
       ·obtain ⟨rfl,hpv,rfl,rfl⟩:=jV (kr h)
        exact ⟨_,Jq hl hi e0 e1 e2,J4 (z6a hp.1 hp.2 (z3n ho) rfl) (fun m=>by rw [z4c,jB hp.1,jB hp.2,lab0 (z3n ho).lab]) rfl (QL hpv (z8t hpv (z0z hmd)) gl.1 gl.2)⟩
       ·cases h
      ·cases h
     ·cases h
    ·cases h
   ·replace h:ifA rs i=some (some (n,ins)):=h
    unfold ifA at h
    rw [e0] at h
    dsimp only at h
    have hc:=z0y r.op (kL _ (Z5 ho))
    have hj:=z0y "jump" (kK ..)
    split at h
    ·rename_i h1
     obtain ⟨x,e1⟩:∃x,rs[i - 1]?=some x:=⟨rs[i - 1],kF (by lia)⟩
     rw [e1] at h
     dsimp only at h
     split at h
     ·rename_i hnot
      split at h
      ·cases h
       have hx:Str1 x 0:=z19 (by rw [hnot];decide+kernel)
       have hxu:zR x.op≠some ("mark":Str):=by rw [hnot];decide+kernel
       have hw:=z0y (jC r.op) (kL _ (Z5 (z0n _ ho)))
       exact ⟨_,jk h1 hi e0 e1,z8Z hx ho,fun m=>by rw [j7,lab0 hx.lab,lab0 hc.1],fun m=>lab0 hw.1 m,fun m h=>by
        rw [Zb,use0 hxu,Nat.zero_add,←z3f (r:=⟨jC r.op,r.arg,r.line⟩) hw.2 hc.2 hw.1 hc.1 rfl]
        exact h,AllG.one (QM (hm e0) hc.2 hw.2)⟩
      ·cases h
     ·split at h
      ·rename_i h2
       have hx:=qL h2 e1
       split at h
       ·cases h
        have lg:∀m,lab m [x,r]=0:=fun m=>by rw [j7,jB hx,lab0 hc.1]
        split
        ·exact ⟨_,jk h1 hi e0 e1,z4T hx ho,lg,fun m=>lab0 hj.1 m,fun m h=>by
          rw [Zb,Qb hx,Nat.zero_add,←z3f (r:=⟨"jump",r.arg,r.line⟩) hj.2 hc.2 hj.1 hc.1 rfl]
          exact h,AllG.one (QM (hm e0) hc.2 hj.2)⟩
        ·exact ⟨_,jk h1 hi e0 e1,z4U hx (Z5 ho),lg,fun m=>rfl,fun m h=>absurd rfl h,AllG.nil⟩
       ·cases h
      ·cases h
    ·cases h
   ·replace h:orA rs i=some (some (n,ins)):=h
    unfold orA at h
    rw [e0] at h
    dsimp only at h
    have hc:=z0y r.op (kL _ (z48 ho))
    have hj:=z0y "jump" (kK ..)
    split at h
    ·rename_i h1
     obtain ⟨x,e1⟩:∃x,rs[i - 1]?=some x:=⟨rs[i - 1],kF (by lia)⟩
     rw [e1] at h
     dsimp only at h
     split at h
     ·rename_i h2
      have hx:=qL h2 e1
      split at h
      ·cases h
       have lg:∀m,lab m [x,r]=0:=fun m=>by rw [j7,jB hx,lab0 hc.1]
       split
       ·exact ⟨_,jk h1 hi e0 e1,z4S hx ho,lg,fun m=>by rw [j7,jB hx,lab0 hj.1],fun m h=>by
         rw [Zb,Qb hx,Nat.zero_add] at h
         rw [Zb,Qb hx,Nat.zero_add,←z3f (r:=⟨"jump",r.arg,r.line⟩) hj.2 hc.2 hj.1 hc.1 rfl]
         exact h,AllG.pair (hm e1) (QM (hm e0) hc.2 hj.2)⟩
       ·exact ⟨_,jk h1 hi e0 e1,z4U hx (z48 ho),lg,fun m=>rfl,fun m h=>absurd rfl h,AllG.nil⟩
      ·cases h
     ·cases h
    ·cases h
structure Snd (k:Nat) (Γ:Int→Option Sta) (acc rest:List Row):Prop where
 good:Good 0 k (acc++rest)
 ok:chk Γ (acc++rest) (some (0,[]))=some none
theorem z3D {k:Nat} {Γ:Int→Option Sta} {pre g ins rest:List Row} (h:Snd k Γ (pre++g) rest) (gr:Grp g ins):Snd k Γ (pre++ins) rest:=by
 have hl:∀m,lab m (pre++ins++rest)=lab m (pre++g++rest):=fun m=>by
  rw [zN,zN,zN,zN,gr.lg,gr.li]
 refine ⟨⟨?_,fun m=>?_,fun m hm=>?_,fun m hm=>?_,fun m ha hb=>?_⟩,?_⟩
 ·have a:=h.good.row
  refine AllG.app (AllG.app (fun r hr=>a r (kI _ (kI _ hr))) gr.ok) fun r hr=>a r (kH _ hr)
 ·rw [hl];exact h.good.lab1 m
 ·rw [hl] at hm;exact h.good.labI m hm
 ·rw [hl]
  refine h.good.useI m ?_
  rw [jm,jm] at hm ⊢
  have:=gr.us m
  lia
 ·rw [hl];exact h.good.labA m ha hb
 ·have c:=h.ok
  rw [zq,zq] at c ⊢
  cases h1:chk Γ pre (some (0,[])) with
  | none=>rw [h1] at c;cases c
  | some c1=>
   rw [h1] at c
   rw [kb] at c ⊢
   cases h2:chk Γ g c1 with
   | none=>rw [h2] at c;cases c
   | some e=>
    rw [h2,kb] at c
    obtain ⟨e',h3,h4⟩:=gr.ch Γ c1 e h2
    rw [h3,kb]
    obtain ⟨e2,h5,h6⟩:=z69 c h4
    rw [h5]
    rcases h6 with rfl | rfl <;> rfl
theorem z5x {k:Nat} {Γ:Int→Option Sta} {rest:List Row}:∀(f:Nat) (rs:List Row) (res:Option (Nat × List Row)) (out:List Row),1≤rs.length→zQ rs (rs.length - 1)=some res→Snd k Γ rs rest→qR f rs res=some out→Snd k Γ out rest:=by
 intro f
 induction f with
 | zero=>
  intro rs res out h1 hf hs hw
  cases res with
  | none=>unfold qR at hw;cases hw;exact hs
  | some z=>
   obtain ⟨n,ins⟩:=z
   unfold qR at hw
   split at hw
   ·split at hw
    ·cases hw
     obtain ⟨g,e,gr⟩:=z2e (fun r hr=>hs.good.row r (kI _ hr)) (show rs.length - 1+1=rs.length by lia) hf
     unfold putW
     rw [e] at hs
     exact z3D hs gr
    ·cases hw
   ·cases hw
 | succ f ih=>
  intro rs res out h1 hf hs hw
  cases res with
  | none=>unfold qR at hw;cases hw;exact hs
  | some z=>
   obtain ⟨n,ins⟩:=z
   obtain ⟨g,e,gr⟩:=z2e (fun r hr=>hs.good.row r (kI _ hr)) (show rs.length - 1+1=rs.length by lia) hf
   have hs':Snd k Γ (putW rs n ins) rest:=by
    unfold putW
    rw [e] at hs
    exact z3D hs gr
   unfold qR at hw
   split at hw
   ·split at hw
    ·cases hw
     exact hs'
    ·rename_i hne
     cases hfa:zQ (putW rs n ins) ((putW rs n ins).length - 1) with
     | none=>rw [hfa] at hw;cases hw
     | some res'=>
      rw [hfa] at hw
      refine ih _ res' out ?_ hfa hs' hw
      unfold putW
      rw [kh]
      cases ins with
      | nil=>exact absurd rfl hne
      | cons a b=>simp only [kJ];lia
   ·cases hw
theorem z2Q {k:Nat} {Γ:Int→Option Sta}:∀(rest acc out:List Row),Snd k Γ acc rest→qx acc rest=some out→Snd k Γ out []:=by
 intro rest
 induction rest with
 | nil=>intro acc out h e;cases e;exact h
 | cons r rest ih=>
  intro acc out h e
  have hs:Snd k Γ (acc++[r]) rest:=by
   have e2:acc++r :: rest=(acc++[r])++rest:=by rw [kP];rfl
   exact ⟨e2▸h.good,e2▸h.ok⟩
  unfold qx at e
  cases hw:QG acc r with
  | none=>rw [hw] at e;cases e
  | some acc'=>
   rw [hw] at e
   dsimp only at e
   split at e
   ·refine ih acc' out ?_ e
    unfold QG at hw
    cases hf:zQ (acc++[r]) acc.length with
    | none=>rw [hf] at hw;cases hw
    | some res=>
     rw [hf] at hw
     have hl:(acc++[r]).length=acc.length+1:=by rw [kh];rfl
     exact z5x _ _ res acc' (by lia) (by rw [hl];exact hf) hs hw
   ·cases e
theorem z8J {rs:List Row} {i n:Nat} {ins:List Row} (h:zQ rs i=some (some (n,ins))):n=2∨n=3:=by
 unfold zQ at h
 cases e0:rs[i]? with
 | none=>rw [e0] at h;cases h
 | some r=>
  rw [e0] at h
  dsimp only at h
  cases ht:tagT.lookup r.op with
  | none=>rw [ht] at h;cases h
  | some t=>
   rw [ht] at h
   match t,ht,h with
   | 0,ht,h=>cases h
   | _+8,ht,h=>cases h
   | 1,ht,h=>
    replace h:jA rs i=some (some (n,ins)):=h
    unfold jA at h
    split at h
    ·rename_i h1
     split at h
     ·split at h
      ·cases h;exact .inl rfl
      ·cases h
     ·cases h
    ·cases h
   | 2,ht,h=>
    replace h:oneM rs i=some (some (n,ins)):=h
    unfold oneM at h
    split at h
    ·rename_i h1
     have:=qa h1
     split at h
     ·split at h
      ·split at h
       ·split at h
        ·exact .inl (jV (kr h)).2.2.1
        ·cases h
       ·cases h
      ·cases h
     ·cases h
    ·cases h
   | 3,ht,h=>
    replace h:jK rs i=some (some (n,ins)):=h
    unfold jK at h
    rw [e0] at h
    dsimp only at h
    split at h
    ·split at h
     ·split at h
      ·rename_i h1
       have:=qa h1
       split at h
       ·rename_i x e1
        cases h
        exact .inl rfl
       ·cases h
      ·cases h
     ·cases h
    ·cases h
   | 4,ht,h=>
    replace h:jy rs i=some (some (n,ins)):=h
    unfold jy at h
    rw [e0] at h
    dsimp only at h
    split at h
    ·split at h
     ·split at h
      ·rename_i h1
       have:=qa h1
       split at h
       ·rename_i y x e1 e2
        cases h
        exact .inr rfl
       ·cases h
      ·cases h
     ·cases h
    ·cases h
   | 5,ht,h=>
    replace h:twoM rs i=some (some (n,ins)):=h
    unfold twoM at h
    split at h
    ·rename_i h1
     have:=qa h1
     split at h
     ·split at h
      ·split at h
       ·split at h
        ·exact .inr (jV (kr h)).2.2.1
        ·cases h
       ·cases h
      ·cases h
     ·cases h
    ·cases h
   | 6,ht,h=>
    replace h:ifA rs i=some (some (n,ins)):=h
    unfold ifA at h
    rw [e0] at h
    dsimp only at h
    split at h
    ·rename_i h1
     split at h
     ·split at h
      ·split at h
       ·rename_i hw
        cases h
        exact .inl rfl
       ·cases h
      ·split at h
       ·split at h
        ·cases h
         exact .inl rfl
        ·cases h
       ·cases h
     ·cases h
    ·cases h
   | 7,ht,h=>
    replace h:orA rs i=some (some (n,ins)):=h
    unfold orA at h
    rw [e0] at h
    dsimp only at h
    split at h
    ·rename_i h1
     split at h
     ·rename_i x e1
      split at h
      ·rename_i h2
       split at h
       ·cases h
        exact .inl rfl
       ·cases h
      ·cases h
     ·cases h
    ·cases h
noncomputable def ends (n:Nat):Option (Option (Nat × List Row))→Bool
 | some (some (k,_))=>decide (k=n)
 | _=>false
noncomputable def ji (rs:List Row) (a:Nat):Bool:=ends 2 (zQ rs (a+1))||ends 3 (zQ rs (a+2))
theorem z4Y {rs:List Row} (hF:qt rs):(∀a,a < rs.length→ji rs a=false)↔NG rs:=by
 constructor
 ·intro h i hi
  obtain ⟨res,hr⟩:=ZN hF hi
  cases res with
  | none=>exact hr
  | some z=>
   obtain ⟨n,ins⟩:=z
   exfalso
   have hb:n≤i+1:=by cases QA hr <;> lia
   rcases z8J hr with rfl | rfl
   ·have:=h (i - 1) (by lia)
    unfold ji at this
    rw [show i - 1+1=i by lia,hr] at this
    simp [ends] at this
   ·have:=h (i - 2) (by lia)
    unfold ji at this
    rw [show i - 2+2=i by lia,hr] at this
    simp [ends] at this
 ·intro h a ha
  have none_out:∀i,rs.length≤i→zQ rs i=none:=fun i hi=>by
   unfold zQ
   rw [List.getElem?_eq_none hi]
  unfold ji
  have e1:∀i n,ends n (zQ rs i)=false:=fun i n=>by
   by_cases hi:i < rs.length
   ·rw [h i hi];rfl
   ·rw [none_out i (by lia)];rfl
  rw [e1,e1]
  rfl
theorem z5y:∀(f:Nat) (rs:List Row) (res:Option (Nat × List Row)) (out:List Row),qR f rs res=some out→out.length≤rs.length:=by
 intro f
 induction f with
 | zero=>
  intro rs res out h
  cases res with
  | none=>unfold qR at h;cases h;exact kc _
  | some z=>
   obtain ⟨n,ins⟩:=z
   unfold qR at h
   split at h
   ·rename_i hz
    split at h
    ·cases h
     unfold putW
     rw [kh,List.length_take]
     lia
    ·cases h
   ·cases h
 | succ f ih=>
  intro rs res out h
  cases res with
  | none=>unfold qR at h;cases h;exact kc _
  | some z=>
   obtain ⟨n,ins⟩:=z
   unfold qR at h
   split at h
   ·rename_i hz
    have hp:(putW rs n ins).length≤rs.length:=by
     unfold putW
     rw [kh,List.length_take]
     lia
    split at h
    ·cases h
     exact hp
    ·split at h
     ·exact km (ih _ _ _ h) hp
     ·cases h
   ·cases h
def Alt (r y:Row):Prop:=(r.op="copy"∧y.op="push")∨(r.op∈ors2∧y.op="jump")
theorem z5M {rs:List Row} {i n:Nat} {x y:Row} (h:zQ rs i=some (some (n,[x,y]))) (hn:n=2):∃r,rs[i]?=some r∧1≤i∧rs[i - 1]?=some x∧Alt r y:=by
 subst hn
 unfold zQ at h
 cases e0:rs[i]? with
 | none=>rw [e0] at h;cases h
 | some r=>
  rw [e0] at h
  dsimp only at h
  cases ht:tagT.lookup r.op with
  | none=>rw [ht] at h;cases h
  | some t=>
   rw [ht] at h
   rcases Jh ht with ⟨ho,rfl⟩ | ⟨ho,rfl⟩ | ⟨ho,rfl⟩ | ⟨ho,rfl⟩ | ⟨ho,rfl⟩ | ⟨ho,rfl⟩ | ⟨ho,rfl⟩
   ·replace h:jA rs i=some (some (2,[x,y])):=h
    unfold jA at h
    split at h
    ·split at h
     ·split at h <;> cases h
     ·cases h
    ·cases h
   ·replace h:oneM rs i=some (some (2,[x,y])):=h
    unfold oneM at h
    split at h
    ·split at h
     ·split at h
      ·split at h
       ·split at h
        ·cases (jV (kr h)).2.2.2
        ·cases h
       ·cases h
      ·cases h
     ·cases h
    ·cases h
   ·replace h:jK rs i=some (some (2,[x,y])):=h
    unfold jK at h
    rw [e0] at h
    dsimp only at h
    split at h
    ·split at h
     ·split at h
      ·rename_i h1
       split at h
       ·rename_i x' e1
        cases h
        exact ⟨r,rfl,qa h1,e1,.inl ⟨ho,rfl⟩⟩
       ·cases h
      ·cases h
     ·cases h
    ·cases h
   ·replace h:jy rs i=some (some (2,[x,y])):=h
    unfold jy at h
    rw [e0] at h
    dsimp only at h
    split at h
    ·split at h
     ·split at h
      ·split at h
       ·injection h with h;injection h with h;injection h with h1 h2;cases h1
       ·cases h
      ·cases h
     ·cases h
    ·cases h
   ·replace h:twoM rs i=some (some (2,[x,y])):=h
    unfold twoM at h
    split at h
    ·split at h
     ·split at h
      ·split at h
       ·split at h
        ·cases (jV (kr h)).2.2.2
        ·cases h
       ·cases h
      ·cases h
     ·cases h
    ·cases h
   ·replace h:ifA rs i=some (some (2,[x,y])):=h
    unfold ifA at h
    rw [e0] at h
    dsimp only at h
    split at h
    ·split at h
     ·split at h
      ·split at h <;> cases h
      ·split at h
       ·split at h
        ·split at h <;> cases h
        ·cases h
       ·cases h
     ·cases h
    ·cases h
   ·replace h:orA rs i=some (some (2,[x,y])):=h
    unfold orA at h
    rw [e0] at h
    dsimp only at h
    split at h
    ·rename_i h1
     split at h
     ·rename_i x' e1
      split at h
      ·split at h
       ·split at h
        ·cases h
         exact ⟨r,rfl,h1,e1,.inr ⟨ho,rfl⟩⟩
        ·cases h
       ·cases h
      ·cases h
     ·cases h
    ·cases h
theorem z0w (f:Nat) (rs:List Row):qR f rs none=some rs:=by cases f <;> (unfold qR;rfl)
theorem z1L {acc acc':List Row} {r:Row} (hw:QG acc r=some acc') (hl:acc'.length=acc.length+1):acc'=acc++[r]∨∃y,acc'=acc++[y]∧Alt r y:=by
 have hlen:(acc++[r]).length=acc.length+1:=by rw [kh];rfl
 unfold QG at hw
 cases hf:zQ (acc++[r]) acc.length with
 | none=>rw [hf] at hw;cases hw
 | some res=>
  rw [hf] at hw
  dsimp only at hw
  cases res with
  | none=>
   rw [z0w] at hw
   exact .inl (kr hw).symm
  | some z=>
   obtain ⟨n,ins⟩:=z
   right
   have sh:=QA hf
   unfold qR at hw
   split at hw
   ·rename_i hz
    have hp:(putW (acc++[r]) n ins).length=acc.length+1 - n+ins.length:=by
     unfold putW
     rw [kh,List.length_take]
     lia
    split at hw
    ·rename_i he
     cases hw
     rw [List.isEmpty_iff.mp he] at hp hl
     rw [hp] at hl
     exfalso
     simp at hl
     lia
    ·cases hfa:zQ (putW (acc++[r]) n ins) ((putW (acc++[r]) n ins).length - 1) with
     | none=>rw [hfa] at hw;cases hw
     | some res'=>
      rw [hfa] at hw
      dsimp only at hw
      have:=z5y _ _ _ _ hw
      cases sh with
      | gone h2 hn=>exfalso;simp at hp;lia
      | one h2 hn hr=>exfalso;simp at hp;lia
      | way hn hr=>exfalso;simp at hp;lia
      | two h2 hn hx hr=>
       rename_i x y _
       simp only [kJ,List.length_nil] at hp
       have hn2:n=2:=by lia
       obtain ⟨r',e0,h1,e1,al⟩:=z5M hf hn2
       have er:r'=r:=by
        rw [yb (kc _),Nat.sub_self] at e0
        exact (kr e0).symm
       subst er
       subst hn2
       have lt:=jk h1 (by lia) (by rw [yb (kc _),Nat.sub_self];rfl) e1
       have ea:acc=(acc++[r']).take ((acc++[r']).length - 2)++[x]:=by
        have:acc++[r']=((acc++[r']).take ((acc++[r']).length - 2)++[x])++[r']:=by
         rw [kP]
         exact lt
        exact List.append_cancel_right this
       have ep:putW (acc++[r']) 2 [x,y]=acc++[y]:=by
        unfold putW
        rw [show [x,y]=[x]++[y] from rfl,←kP,←ea]
       have hres:res'=none:=by
        have:zQ (putW (acc++[r']) 2 [x,y]) ((putW (acc++[r']) 2 [x,y]).length - 1)=some none:=by
         rw [ep]
         refine ZB (r:=y) ?_ hr
         rw [kh]
         show (acc++[y])[acc.length+1 - 1]?=some y
         rw [Nat.add_sub_cancel,yb (kc _),Nat.sub_self]
         rfl
        rw [this] at hfa
        exact (kr hfa).symm
       subst hres
       rw [z0w] at hw
       exact ⟨y,by rw [←kr hw,ep],al⟩
   ·cases hw
theorem Jt:∀(rest acc out:List Row),qx acc rest=some out→out.length≤acc.length+rest.length:=by
 intro rest
 induction rest with
 | nil=>intro acc out h;cases h;simp
 | cons r rest ih=>
  intro acc out h
  unfold qx at h
  split at h
  ·split at h
   ·have:=ih _ _ h
    rw [kJ]
    lia
   ·cases h
  ·cases h
theorem z1y:∀(rest acc out:List Row),qx acc rest=some out→out.length=acc.length+rest.length→∃tl,out=acc++tl:=by
 intro rest
 induction rest with
 | nil=>intro acc out h _;cases h;exact ⟨[],by simp⟩
 | cons r rest ih=>
  intro acc out h hl
  unfold qx at h
  split at h
  ·rename_i acc' hw
   split at h
   ·have hle:=Jt _ _ _ h
    rw [kJ] at hl
    have h1:acc'.length=acc.length+1:=by lia
    obtain ⟨tl,e⟩:=ih _ _ h (by lia)
    rcases z1L hw h1 with e2 | ⟨y,e2,_⟩
    ·exact ⟨r :: tl,by rw [e,e2,kP];rfl⟩
    ·exact ⟨y :: tl,by rw [e,e2,kP];rfl⟩
   ·cases h
  ·cases h
theorem z2R:∀(rest acc out:List Row),qx acc rest=some out→out.length=acc.length+rest.length→out=acc++rest∨∃pre r y tl tl',rest=pre++r :: tl∧out=acc++pre++y :: tl'∧Alt r y:=by
 intro rest
 induction rest with
 | nil=>intro acc out h _;cases h;exact .inl (by simp)
 | cons r rest ih=>
  intro acc out h hl
  unfold qx at h
  split at h
  ·rename_i acc' hw
   split at h
   ·have hle:=Jt _ _ _ h
    rw [kJ] at hl
    have h1:acc'.length=acc.length+1:=by lia
    rcases z1L hw h1 with e2 | ⟨y,e2,al⟩
    ·rcases ih _ _ h (by lia) with e | ⟨pre,r',y,tl,tl',e3,e4,al⟩
     ·left
      rw [e,e2,kP]
      rfl
     ·right
      refine ⟨r :: pre,r',y,tl,tl',by rw [e3];rfl,?_,al⟩
      rw [e4,e2,kP,kP,kP]
      rfl
    ·right
     obtain ⟨tl,e⟩:=z1y _ _ _ h (by lia)
     exact ⟨[],r,y,rest,tl,rfl,by rw [e,e2,kO,kP];rfl,al⟩
   ·cases h
  ·cases h
noncomputable def canB:V→Bool
 | .int i=>decide ((if i < 0 then -i else i)≤1000000000)
 | _=>true
def z6V:Sp:=fun vs H Q _=>∃x,vs=[x]∧Scal x∧Q (.bl (canB x)) H
section
theorem z9f:zn ["_law_value_here"] ["_law_value_here"] (ze (top 101)):=fsM
theorem z8R (D:zt K mg "_law_can_push" (top 101)) (G:Glo mg) (FW:FN P w K mg base 1 "_law_whole" ["_law_thing"] (sp1 jb)):FN P w K mg base 2 "_law_can_push" ["_law_value_here"] z6V:=by
 refine FN.o D z9f fun f cdv A outer s H vs Q E hr h=>?_
 obtain ⟨x,rfl,hx,q⟩:=h
 refine ⟨_,zd (zm (z3T (z1Y (zp FW hr rfl (z6 (pv 0) z7))) (j8 (zU z0q (zw z02 rfl G.abs z03 (z6 (pv 0) z7)) (zG z0o zc zc) (zo _))))),?_⟩
 refine ⟨_,rfl,x,rfl,hx,jb x,rfl,_,rfl,?_⟩
 cases hx with
 | int i=>exact iteF ⟨_,rfl,i,rfl,_,_,rfl,rfl,⟨by decide,by decide,by decide⟩,_,_,rfl,rfl,q⟩
 | non=>exact iteT q
 | bl b=>exact iteT q
 | str z hz=>exact iteT q
end
theorem z3a {v:V} (hs:∀z,v≠.str z) (hv:jH v=true):canB v=zP v:=by
 cases v with
 | non=>rfl
 | bl b=>rfl
 | int i=>
  unfold canB zP Qa ql JS qO isB
  dsimp only
  have:decide (V.int i=V.non)=false:=ke (fun z=>by cases z)
  rw [this,Bool.false_or,Bool.false_or,Bool.or_false,Bool.eq_iff_iff,kX,kY,kY,kY]
  constructor
  ·intro h;split at h <;> lia
  ·intro h;split <;> lia
 | str z=>exact absurd rfl (hs z)
 | _=>cases hv
noncomputable def isP (r:Row):Bool:=decide (r.op="push")
noncomputable def e2 (x y:Row):Bool:=match tagT.lookup y.op with
 | some 1=>inT x.op ["push","copy","quick"]
 | some 2=>isP x&&(decide (y.op="not")||jb x.arg)
 | some 3=>isP x&&decide (y.arg=.int 1)
 | some 6=>decide (x.op="not")||isP x
 | some 7=>isP x
 | _=>false
noncomputable def e3 (x y z:Row):Bool:=match tagT.lookup z.op with
 | some 4=>isP x&&isP y&&decide (z.arg=.int 2)
 | some 5=>isP x&&isP y&&(match jz z.op x.arg y.arg with
  | some (r1,r2)=>decide (r1=.non)&&zP r2
  | none=>false)
 | _=>false
theorem z2s {rs:List Row} {a:Nat} {x:Row} (e:rs[a]?=some x):zX rs (a+1) 1=isP x:=by
 unfold zX Z8 isP
 rw [kf (by lia),Bool.true_and,Nat.add_sub_cancel]
 have ha:a < rs.length:=(kd.mp e).1
 have:(rs.drop a).take 1=[x]:=by
  rw [List.drop_eq_getElem_cons ha,(kd.mp e).2]
  rfl
 rw [this]
 simp
theorem z6G {rs:List Row} {a:Nat} {x y:Row} (e:rs[a]?=some x) (e1:rs[a+1]?=some y):zX rs (a+2) 2=(isP x&&isP y):=by
 unfold zX Z8 isP
 rw [kf (by lia),Bool.true_and,Nat.add_sub_cancel]
 have ha:a < rs.length:=(kd.mp e).1
 have ha1:a+1 < rs.length:=(kd.mp e1).1
 have:(rs.drop a).take 2=[x,y]:=by
  rw [List.drop_eq_getElem_cons ha,(kd.mp e).2,List.drop_eq_getElem_cons ha1,(kd.mp e1).2]
  rfl
 rw [this]
 simp
theorem ZQ {many n:Nat} {r1 r2:V} {l:Int}:ends n (some (Qm many r1 r2 l))=(decide (many=n)&&(decide (r1=.non)&&zP r2)):=by
 unfold Qm
 by_cases h1:r1=.non
 ·rw [kq h1,kf h1,Bool.true_and]
  cases h2:zP r2 with
  | true=>rw [kq rfl];simp [ends]
  | false=>rw [ko ka];simp [ends]
 ·rw [ko h1,ke h1];simp [ends]
theorem z2h {rs:List Row} (hF:qt rs) {a:Nat} {x y:Row} (e:rs[a]?=some x) (e1:rs[a+1]?=some y):ends 2 (zQ rs (a+1))=e2 x y:=by
 have hm:∀{j:Nat} {r:Row},rs[j]?=some r→FRow r:=fun e=>hF _ (kz e)
 have e':rs[a+1 - 1]?=some x:=e
 unfold zQ e2
 rw [e1]
 dsimp only
 cases ht:tagT.lookup y.op with
 | none=>rfl
 | some t=>
  rcases Jh ht with ⟨ho,rfl⟩ | ⟨ho,rfl⟩ | ⟨ho,rfl⟩ | ⟨ho,rfl⟩ | ⟨ho,rfl⟩ | ⟨ho,rfl⟩ | ⟨ho,rfl⟩
  ·show ends 2 (jA rs (a+1))=_
   unfold jA
   rw [kq (by lia),e']
   dsimp only
   cases inT x.op ["push","copy","quick"] <;> simp [ends]
  ·show ends 2 (oneM rs (a+1))=_
   unfold oneM
   rw [z2s e]
   cases hp:isP x with
   | false=>rw [ko ka];rfl
   | true=>
    rw [kq rfl,e1,e']
    dsimp only
    have px:=(hm e).1 (ku hp)
    rw [kq (zM px).1,Bool.true_and]
    unfold J0
    by_cases hn:y.op="not"
    ·rw [kq hn]
     dsimp only
     rw [kq (show jH (V.bl (!z07 x.arg))=true from rfl),ZQ,kf hn]
     rfl
    ·rw [ko hn,ke hn,Bool.false_or]
     cases hx:x.arg with
     | int i=>
      dsimp only
      rw [kq (show jH (V.int (-i))=true from rfl),ZQ]
      have:zP (.int (-i))=true:=by
       rw [hx] at px
       unfold zP Qa ql JS qO isB at px ⊢
       have z1:decide (V.int i=V.non)=false:=ke (fun z=>by cases z)
       have z2:decide (V.int (-i)=V.non)=false:=ke (fun z=>by cases z)
       dsimp only at px ⊢
       rw [z1,Bool.false_or,Bool.false_or,Bool.or_false,kX,kY,kY] at px
       rw [z2,Bool.false_or,Bool.false_or,Bool.or_false,kX,kY,kY]
       lia
      rw [this]
      rfl
     | _=>rfl
  ·show ends 2 (jK rs (a+1))=_
   unfold jK
   rw [e1]
   dsimp only
   obtain ⟨n,hn⟩:=(hm e1).2 (.inl ho)
   rw [hn]
   dsimp only
   by_cases h1:n=1
   ·rw [kq h1,z2s e,e',kf (congrArg V.int h1),Bool.and_true]
    cases isP x <;> simp [ends]
   ·rw [ko h1,ke (fun z=>h1 (V.int.inj z)),Bool.and_false]
    rfl
  ·show ends 2 (jy rs (a+1))=false
   cases h:jy rs (a+1) with
   | none=>rfl
   | some o=>cases o with
    | none=>rfl
    | some z=>
     obtain ⟨n,ins⟩:=z
     unfold jy at h
     rw [e1] at h
     dsimp only at h
     split at h
     ·split at h
      ·split at h
       ·split at h
        ·injection h with h;injection h with h;injection h with h1 h2
         subst h1
         rfl
        ·cases h
       ·cases h
      ·cases h
     ·cases h
  ·show ends 2 (twoM rs (a+1))=false
   cases h:twoM rs (a+1) with
   | none=>rfl
   | some o=>cases o with
    | none=>rfl
    | some z=>
     obtain ⟨n,ins⟩:=z
     unfold twoM at h
     split at h
     ·split at h
      ·split at h
       ·split at h
        ·split at h
         ·have:=(jV (kr h)).2.2.1
          subst this
          rfl
         ·cases h
        ·cases h
       ·cases h
      ·cases h
     ·cases h
  ·show ends 2 (ifA rs (a+1))=_
   unfold ifA
   rw [e1]
   dsimp only
   rw [kq (by lia),e']
   dsimp only
   have hw:wayT.lookup y.op=some (.str (jC y.op)):=by
    revert ho
    generalize y.op=op
    revert op
    decide+kernel
   by_cases hn:x.op="not"
   ·rw [kq hn,kq hw,kf hn];simp [ends]
   ·rw [ko hn,z2s e,ke hn,Bool.false_or]
    cases hp:isP x with
    | false=>rw [ko ka];rfl
    | true=>
     rw [kq rfl,kq (zM ((hm e).1 (ku hp))).1]
     simp [ends]
  ·show ends 2 (orA rs (a+1))=_
   unfold orA
   rw [e1]
   dsimp only
   rw [kq (by lia),e']
   dsimp only
   rw [z2s e]
   cases hp:isP x with
   | false=>rw [ko ka];rfl
   | true=>
    rw [kq rfl,kq (zM ((hm e).1 (ku hp))).1]
    simp [ends]
theorem z33 {rs:List Row} (hF:qt rs) {a:Nat} {x y z:Row} (e:rs[a]?=some x) (e1:rs[a+1]?=some y) (e2':rs[a+2]?=some z):ends 3 (zQ rs (a+2))=e3 x y z:=by
 have hm:∀{j:Nat} {r:Row},rs[j]?=some r→FRow r:=fun e=>hF _ (kz e)
 have p1:rs[a+2 - 1]?=some y:=e1
 have p2:rs[a+2 - 2]?=some x:=e
 cases ht:tagT.lookup z.op with
 | none=>
  rw [ZB e2' ht]
  unfold e3
  rw [ht]
  rfl
 | some t=>
  rcases Jh ht with ⟨ho,rfl⟩ | ⟨ho,rfl⟩ | ⟨ho,rfl⟩ | ⟨ho,rfl⟩ | ⟨ho,rfl⟩ | ⟨ho,rfl⟩ | ⟨ho,rfl⟩
  ·have:ends 3 (zQ rs (a+2))=false:=by
    unfold zQ
    rw [e2']
    dsimp only
    rw [ht]
    show ends 3 (jA rs (a+2))=false
    unfold jA
    rw [kq (by lia),p1]
    dsimp only
    split <;> rfl
   rw [this];unfold e3;rw [ht];rfl
  ·have:ends 3 (zQ rs (a+2))=false:=by
    unfold zQ
    rw [e2']
    dsimp only
    rw [ht]
    show ends 3 (oneM rs (a+2))=false
    unfold oneM
    split
    ·rw [e2',p1]
     dsimp only
     split
     ·split
      ·split
       ·rw [ZQ];rfl
       ·rfl
      ·rfl
     ·rfl
    ·rfl
   rw [this];unfold e3;rw [ht];rfl
  ·have:ends 3 (zQ rs (a+2))=false:=by
    unfold zQ
    rw [e2']
    dsimp only
    rw [ht]
    show ends 3 (jK rs (a+2))=false
    unfold jK
    rw [e2',p1]
    dsimp only
    split
    ·split
     ·split <;> rfl
     ·rfl
    ·rfl
   rw [this];unfold e3;rw [ht];rfl
  ·unfold zQ e3
   rw [e2']
   dsimp only
   rw [ht]
   show ends 3 (jy rs (a+2))=_
   unfold jy
   rw [e2']
   dsimp only
   obtain ⟨n,hn⟩:=(hm e2').2 (.inr ho)
   rw [hn]
   dsimp only
   by_cases h1:n=2
   ·rw [kq h1,z6G e e1,p1,p2,kf (congrArg V.int h1),Bool.and_true]
    cases isP x&&isP y <;> simp [ends]
   ·rw [ko h1,ke (fun z=>h1 (V.int.inj z)),Bool.and_false]
    rfl
  ·unfold zQ e3
   rw [e2']
   dsimp only
   rw [ht]
   show ends 3 (twoM rs (a+2))=_
   unfold twoM
   rw [z6G e e1]
   cases hx:isP x with
   | false=>rw [Bool.false_and,ko ka];rfl
   | true=>
    cases hy:isP y with
    | false=>rw [Bool.and_false,ko ka];rfl
    | true=>
     rw [Bool.and_true,kq rfl,e2',p1,p2]
     dsimp only
     have px:=(hm e).1 (ku hx)
     have py:=(hm e1).1 (ku hy)
     rw [kq ⟨(zM px).1,(zM py).1⟩]
     obtain ⟨r1,r2,em,hs⟩:=Q3 ht px py
     rw [em]
     dsimp only
     rw [kq hs,ZQ]
     rfl
  ·have:ends 3 (zQ rs (a+2))=false:=by
    unfold zQ
    rw [e2']
    dsimp only
    rw [ht]
    show ends 3 (ifA rs (a+2))=false
    unfold ifA
    rw [e2',p1]
    dsimp only
    rw [kq (by lia)]
    split
    ·split <;> rfl
    ·split
     ·split <;> rfl
     ·rfl
   rw [this];unfold e3;rw [ht];rfl
  ·have:ends 3 (zQ rs (a+2))=false:=by
    unfold zQ
    rw [e2']
    dsimp only
    rw [ht]
    show ends 3 (orA rs (a+2))=false
    unfold orA
    rw [e2',p1]
    dsimp only
    rw [kq (by lia)]
    split
    ·split <;> rfl
    ·rfl
   rw [this];unfold e3;rw [ht];rfl
noncomputable def l2 (x y:Row):Bool:=
 if (decide (y.op="drop")&&inT x.op ["push","copy","quick"])=true then true
 else if (decide (x.op="not")&&inT y.op ["iftrue","iffalse"])=true then true
 else if (isP x&&inT y.op ["iftrue","iffalse","ortrue","orfalse","not"])=true then true
 else if (isP x&&decide (y.op="neg"))=true then jb x.arg
 else (isP x&&(decide (y.op="copy")&&decide (y.arg=.int 1)))
theorem z7e (x y:Row):l2 x y=e2 x y:=by
 unfold l2 e2
 cases ht:tagT.lookup y.op with
 | none=>
  have h:∀op:Str,(tagT.lookup op).isSome=true→y.op≠op:=fun op h e=>by rw [←e,ht] at h;cases h
  have a1:=h "drop" (by trivial)
  have a2:=h "neg" (by trivial)
  have a3:=h "copy" (by trivial)
  have a4:inT y.op ["iftrue","iffalse","ortrue","orfalse","not"]=false:=by
   rw [Bool.eq_false_iff]
   intro z
   rw [jI] at z
   simp only [kw,kl,or_false] at z
   rcases z with z | z | z | z | z
   ·exact h _ (by trivial) z
   ·exact h _ (by trivial) z
   ·exact h _ (by trivial) z
   ·exact h _ (by trivial) z
   ·exact h _ (by trivial) z
  have a5:inT y.op ["iftrue","iffalse"]=false:=by
   rw [Bool.eq_false_iff]
   intro z
   rw [jI] at z
   simp only [kw,kl,or_false] at z
   rcases z with z | z
   ·exact h _ (by trivial) z
   ·exact h _ (by trivial) z
  rw [ke a1,ke a2,ke a3,a4,a5]
  simp
 | some t=>
  have hm:=PySem.mem_of_lookup ht
  have i1:∀op:Str,inT op ["iftrue","iffalse"]=decide (op∈(["iftrue","iffalse"]:List Str)):=fun op=>by rw [Bool.eq_iff_iff,jI,kY]
  have i2:∀op:Str,inT op ["iftrue","iffalse","ortrue","orfalse","not"]=decide (op∈(["iftrue","iffalse","ortrue","orfalse","not"]:List Str)):=fun op=>by rw [Bool.eq_iff_iff,jI,kY]
  rw [i1,i2]
  clear ht i1 i2
  generalize inT x.op ["push","copy","quick"]=b1
  generalize isP x=b2
  generalize jb x.arg=b3
  generalize decide (x.op=("not":Str))=b4
  generalize decide (y.arg=V.int 1)=b5
  generalize y.op=op at *
  clear x y
  simp only [tagT,kw,Prod.mk.injEq,kl,or_false] at hm
  rcases hm with z | z | z | z | z | z | z | z | z | z | z | z | z | z | z | z
  all_goals obtain ⟨rfl,rfl⟩:=z
  all_goals revert b1 b2 b3 b4 b5
  all_goals decide+kernel
def z6P:List Str→TA
 | []=>tNil
 | s :: l=>qV (tC (.str s)) (z6P l)
theorem z3m {L:List Str} {σ:L2.St} {H:Hp} {Q:List V→Hp→Prop} (h:Q (L.map V.str) H):z6P L σ H Q:=by
 induction L generalizing Q with
 | nil=>exact h
 | cons s l ih=>exact ih (Q:=fun vs H1=>Q (.str s :: vs) H1) h
theorem QO {K:kn} {σ:L2.St} {H:Hp} {ol:Addr} {ops:List V} (i j:Nat) {s1:Str} (L:List Str) {o1 o2:Str} {Qt Qf:Hp→Prop} (hσ:σ[3]?=some (some (.ref ol))) (ho:H ol=some (.lst ops)) (h1:ops[i]?=some (.str o1)) (h2:ops[j]?=some (.str o2)) (hL:L.length≤9)
  (ht:(decide (o1=s1)&&inT o2 L)=true→∀H1,Same H H1→Qt H1) (hf:(decide (o1=s1)&&inT o2 L)=false→∀H1,Same H H1→Qf H1):
  tAnd (z3j (tOp rEq (tOp (rIxL K) (tVar 3) (tC (.int (i:Nat)))) (tC (.str s1)))) (z3j (tOp (rIn K false) (tOp (rIxL K) (tVar 3) (tC (.int (j:Nat)))) (tTup (z6P L)))) σ H (fun b H1=>if b=true then Qt H1 else Qf H1):=by
 refine ⟨_,hσ,ol,ops,_,_,rfl,rfl,SqL.of ho,zi h1,rfl,decide (o1=s1),congrArg V.bl qP,?_⟩
 cases hd:decide (o1=s1) with
 | false=>
  rw [hd,Bool.false_and] at hf
  exact iteF (iteF (hf rfl H (Same.refl _)))
 | true=>
  rw [hd,Bool.true_and] at ht hf
  refine iteT ⟨_,hσ,ol,ops,_,_,rfl,rfl,SqL.of ho,zi h2,z3m ⟨?_,fun t ht'=>?_⟩⟩
  ·rw [kg]
   exact Nat.le_of_lt (qh (by lia))
  ·have s1:=zg ht' (.tup (L.map V.str))
   refine ⟨t,_,rfl,.inr (SqT.of zb),rfl,?_,inT o2 L,rfl,?_⟩
   ·rw [List.all_map]
    exact List.all_eq_true.mpr fun _ _=>rfl
   ·cases hi:inT o2 L with
    | true=>exact iteT (ht hi _ s1)
    | false=>exact iteF (hf hi _ s1)
theorem z3M {K:kn} {σ:L2.St} {H:Hp} {ol:Addr} {ops:List V} (i j:Nat) {s1 s2:Str} {o1 o2:Str} {Qt Qf:Hp→Prop} (hσ:σ[3]?=some (some (.ref ol))) (ho:H ol=some (.lst ops)) (h1:ops[i]?=some (.str o1)) (h2:ops[j]?=some (.str o2))
  (ht:(decide (o1=s1)&&decide (o2=s2))=true→Qt H) (hf:(decide (o1=s1)&&decide (o2=s2))=false→Qf H):
  tAnd (z3j (tOp rEq (tOp (rIxL K) (tVar 3) (tC (.int (i:Nat)))) (tC (.str s1)))) (z3j (tOp rEq (tOp (rIxL K) (tVar 3) (tC (.int (j:Nat)))) (tC (.str s2)))) σ H (fun b H1=>if b=true then Qt H1 else Qf H1):=by
 refine ⟨_,hσ,ol,ops,_,_,rfl,rfl,SqL.of ho,zi h1,rfl,decide (o1=s1),congrArg V.bl qP,?_⟩
 cases hd:decide (o1=s1) with
 | false=>
  rw [hd,Bool.false_and] at hf
  exact iteF (iteF (hf rfl))
 | true=>
  rw [hd,Bool.true_and] at ht hf
  refine iteT ⟨_,hσ,ol,ops,_,_,rfl,rfl,SqL.of ho,zi h2,rfl,decide (o2=s2),congrArg V.bl qP,?_⟩
  cases hi:decide (o2=s2) with
  | true=>exact iteT (ht hi)
  | false=>exact iteF (hf hi)
noncomputable def l2o (x y:Row):Option Bool:=
 if (decide (y.op="drop")&&inT x.op ["push","copy","quick"])=true then some true
 else if (decide (x.op="not")&&inT y.op ["iftrue","iffalse"])=true then some true
 else if (isP x&&inT y.op ["iftrue","iffalse","ortrue","orfalse","not"])=true then some true
 else if (isP x&&decide (y.op="neg"))=true then some (jb x.arg)
 else if (isP x&&(decide (y.op="copy")&&decide (y.arg=.int 1)))=true then some true else none
theorem z4d (x y:Row):(l2o x y).getD false=l2 x y:=by
 unfold l2o l2
 split
 ·rfl
 ·split
  ·rfl
  ·split
   ·rfl
   ·split
    ·rfl
    ·split
     ·rename_i h;rw [h];rfl
     ·rename_i h;rw [Bool.eq_false_iff.mpr h];rfl
noncomputable def z2x (k:Nat):Stmt:=(zV (top 102)).getD k (.Pass ⟨0,0,0,0⟩)
noncomputable def N102:List Str:=["_law_code_here","_law_at","_law_some","_law_ops","_law_told"]
theorem z5c:zn N102 ["_law_code_here","_law_at"] (ze (top 102)):=fsM
def T102:TS:=fun D σ H=>(∃(c a t o:Option V) (sl ax:Addr),σ=[c,a,some (.ref sl),o,t]∧H sl=some (.lst [.ref ax])∧D.nx σ H)∨∃(c a t:Option V) (sl ol ax ay:Addr) (ra ro:List V) (x y:Row),σ=[c,a,some (.ref sl),some (.ref ol),t]∧H sl=some (.lst (.ref ax :: .ref ay :: ra))∧H ol=some (.lst (.str x.op :: .str y.op :: ro))∧H ax=some (.tup (tupV x))∧H ay=some (.tup (tupV y))∧FRow x∧FRow y∧
 (match l2o x y with
  | some b=>∀H',Same H H'→D.rt (.bl b) H'
  | none=>∀H',Same H H'→D.nx σ H')
section
variable {f:Addr} {cdv:Value} {A:Around} {outer:List Env} {s:Shared} {H0:Hp} {E:XK}
theorem z9K (G:Glo mg) (hr:Room 1 (A.deeper (envOfC "_law_foldable" (ze (top 102)) s.heap.objs.size f cdv))) (FW:FN P w K mg base 1 "_law_whole" ["_law_thing"] (sp1 jb)):PS (cxOf CX0 P w K mg base N102 "_law_foldable" (ze (top 102)) f cdv A outer s H0 E).nox (z2x 2) T102:=by
 refine PS.imp (zH (zk JN (zw zy rfl G.len zW (z6 (pv 2) z7)) zc (zo _))
  (z8 (zH (PW.pt (js (zk qe (zx zr (pv 3) zc (fun _ _=>rfl)) zf (zo _)) (qX (zk qB (zx zr (pv 3) zc (fun _ _=>rfl)) (zF (z6 zf (z6 zf (z6 zf z7)))) rfl)))) (zd (zm Z2)) zu)
  (z8 (zH (PW.pt (js (zk qe (zx zr (pv 3) zc (fun _ _=>rfl)) zf (zo _)) (qX (zk qB (zx zr (pv 3) zc (fun _ _=>rfl)) (zF (z6 zf (z6 zf z7))) rfl)))) (zd (zm Z2)) zu)
  (z8 (zH (PW.pt (js (zk qe (zx zr (pv 3) zc (fun _ _=>rfl)) zf (zo _)) (qX (zk qB (zx zr (pv 3) zc (fun _ _=>rfl)) (zF (z6 zf (z6 zf (z6 zf (z6 zf (z6 zf z7)))))) rfl)))) (zd (zm Z2)) zu)
  (z8 (zH (PW.pt (js (zk qe (zx zr (pv 3) zc (fun _ _=>rfl)) zf (zo _)) (qX (zk qe (zx zr (pv 3) zc (fun _ _=>rfl)) zf (zo _))))) (zd (zm (zp FW hr rfl (z6 (zx zS (zx zr (pv 2) zc (fun _ _=>rfl)) zc (fun _ _=>rfl)) z7)))) zu)
  (zd (zH (PW.pt (js (zk qe (zx zr (pv 3) zc (fun _ _=>rfl)) zf (zo _)) (js (zk qe (zx zr (pv 3) zc (fun _ _=>rfl)) zf (zo _)) (qX (zk qe (zx zS (zx zr (pv 2) zc (fun _ _=>rfl)) zc (fun _ _=>rfl)) zc (zo _)))))) (zd (zm Z2)) zu))))))
  zu) ?_
 rintro D σ H (⟨c,a,t,o,sl,ax,rfl,hs,q⟩ | ⟨c,a,t,sl,ol,ax,ay,ra,ro,x,y,rfl,hs,ho,hax,hay,fx,fy,q⟩)
 ·exact ⟨_,rfl,sl,_,rfl,.inl (SqL.of hs),_,_,rfl,rfl,false,rfl,iteF q⟩
 refine ⟨_,rfl,sl,_,rfl,.inl (SqL.of hs),_,_,rfl,rfl,true,congrArg V.bl (kf ?_),iteT ?_⟩
 ·show (1:Int) < ((ra.length+2:Nat):Int)
  lia
 unfold l2o at q
 refine QO 1 0 ["push","copy","quick"] rfl ho rfl rfl (by decide) (fun h1 H1 s1=>?_) (fun h1 H1 s1=>?_)
 ·rw [kq h1] at q
  exact q H1 s1
 rw [ko (by rw [h1];exact ka)] at q
 refine QO 0 1 ["iftrue","iffalse"] rfl (s1 _ _ ho) rfl rfl (by decide) (fun h2 H2 s2=>?_) (fun h2 H2 s2=>?_)
 ·rw [kq h2] at q
  exact q H2 (s1.trans s2)
 rw [ko (by rw [h2];exact ka)] at q
 have s12:=s1.trans s2
 refine QO 0 1 ["iftrue","iffalse","ortrue","orfalse","not"] rfl (s12 _ _ ho) rfl rfl (by decide) (fun h3 H3 s3=>?_) (fun h3 H3 s3=>?_)
 ·rw [kq (show (isP x&&inT y.op ["iftrue","iffalse","ortrue","orfalse","not"])=true from h3)] at q
  exact q H3 (s12.trans s3)
 rw [ko (by rw [show (isP x&&inT y.op ["iftrue","iffalse","ortrue","orfalse","not"])=false from h3];exact ka)] at q
 have s13:=s12.trans s3
 refine z3M 0 1 rfl (s13 _ _ ho) rfl rfl (fun h4=>?_) (fun h4=>?_)
 ·rw [kq (show (isP x&&decide (y.op="neg"))=true from h4)] at q
  rw [kX,kY,kY] at h4
  refine ⟨_,rfl,sl,_,_,_,rfl,rfl,SqL.of (s13 _ _ hs),zi (j:=0) rfl,ax,_,_,_,rfl,rfl,SqT.of (s13 _ _ hax),zi (j:=1) rfl,?_⟩
  exact ⟨x.arg,rfl,jp (zM (fx.1 h4.1)).1,q H3 s13⟩
 rw [ko (by rw [show (isP x&&decide (y.op="neg"))=false from h4];exact ka)] at q
 refine ⟨_,rfl,ol,_,_,_,rfl,rfl,SqL.of (s13 _ _ ho),zi (j:=0) rfl,rfl,isP x,congrArg V.bl qP,?_⟩
 cases hp:isP x with
 | false=>
  rw [hp,Bool.false_and,ko ka] at q
  exact iteF (iteF (q H3 s13))
 | true=>
  rw [hp,Bool.true_and] at q
  refine iteT ⟨_,rfl,ol,_,_,_,rfl,rfl,SqL.of (s13 _ _ ho),zi (j:=1) rfl,rfl,decide (y.op="copy"),congrArg V.bl qP,?_⟩
  by_cases hc:y.op="copy"
  ·rw [kf hc,Bool.true_and] at q
   rw [kf hc]
   obtain ⟨n,hn⟩:=fy.2 (.inl hc)
   have hay':H3 ay=some (.tup [.str y.op,.int n,.int y.line]):=by
    have:=s13 _ _ hay
    rw [show tupV y=[.str y.op,y.arg,.int y.line] from rfl,hn] at this
    exact this
   rw [hn] at q
   refine iteT ⟨_,rfl,sl,_,_,_,rfl,rfl,SqL.of (s13 _ _ hs),zi (j:=1) rfl,ay,_,_,_,rfl,rfl,SqT.of hay',zi (j:=1) rfl,rfl,decide (V.int n=.int 1),rfl,?_⟩
   cases hb:decide (V.int n=.int 1) with
   | true=>
    rw [hb,kq rfl] at q
    exact iteT (q H3 s13)
   | false=>
    rw [hb,ko ka] at q
    exact iteF (q H3 s13)
  ·rw [ke hc,Bool.false_and,ko ka] at q
   rw [ke hc]
   exact iteF (iteF (q H3 s13))
end
def z9M:TS:=fun D σ H=>(∃(c a o t:Option V) (sl:Addr) (as:List V),σ=[c,a,some (.ref sl),o,t]∧H sl=some (.lst as)∧as.length < 3∧D.rt (.bl false) H)∨
 ∃(c a t:Option V) (sl ol ax ay az:Addr) (x y z:Row),σ=[c,a,some (.ref sl),some (.ref ol),t]∧H sl=some (.lst [.ref ax,.ref ay,.ref az])∧H ol=some (.lst [.str x.op,.str y.op,.str z.op])∧H ax=some (.tup (tupV x))∧H ay=some (.tup (tupV y))∧H az=some (.tup (tupV z))∧FRow x∧FRow y∧FRow z∧∀H',Same H H'→D.rt (.bl (e3 x y z)) H'
theorem z56 (x y:Row):decide ([x.op,y.op]=(["push","push"]:List Str))=(isP x&&isP y):=by
 unfold isP
 rw [Bool.eq_iff_iff]
 simp
theorem z0P {x y z:Row} (h:(isP x&&isP y)=false):e3 x y z=false:=by
 unfold e3
 rw [h]
 split <;> simp
theorem tagS {op:Str}:tagT.lookup op=some 4→op="swap":=by
 intro h
 rcases Jh h with ⟨ho,e⟩ | ⟨ho,e⟩ | ⟨ho,e⟩ | ⟨ho,e⟩ | ⟨ho,e⟩ | ⟨ho,e⟩ | ⟨ho,e⟩
 all_goals first | exact ho | (exfalso;revert e;decide)
theorem tagF {op:Str}:tagT.lookup op=some 5→inT op Zl=true:=by
 intro h
 rcases Jh h with ⟨ho,e⟩ | ⟨ho,e⟩ | ⟨ho,e⟩ | ⟨ho,e⟩ | ⟨ho,e⟩ | ⟨ho,e⟩ | ⟨ho,e⟩
 all_goals first | exact ho | (exfalso;revert e;decide) | (revert ho;generalize op=o;revert o;decide+kernel)
theorem z93:∀op∈Zl,tagT.lookup op=some 5:=by trivial
theorem z7G {x y z:Row} (h1:z.op≠"swap") (h2:inT z.op Zl=false):e3 x y z=false:=by
 unfold e3
 split
 ·rename_i h;exact absurd (tagS h) h1
 ·rename_i h;rw [tagF h] at h2;cases h2
 ·rfl
section
variable {f:Addr} {cdv:Value} {A:Around} {outer:List Env} {s:Shared} {H0:Hp} {E:XK}
theorem z9J (G:Glo mg) (hr:Room 2 (A.deeper (envOfC "_law_foldable" (ze (top 102)) s.heap.objs.size f cdv))) (FP:FN P w K mg base 2 "_law_pair" ["_law_op","_law_one","_law_other"] z3t) (FC:FN P w K mg base 2 "_law_can_push" ["_law_value_here"] z6V):
  PSs (cxOf CX0 P w K mg base N102 "_law_foldable" (ze (top 102)) f cdv A outer s H0 E).nox [z2x 3,z2x 4,z2x 5,z2x 6,z2x 7] z9M:=by
 refine PSs.imp (z8 (zH (PW.pt (Zq (zk Q2 (zw zy rfl G.len zW (z6 (pv 2) z7)) zc (zo _)) (jr (zk (z78 hr.units0) (ZE JC (pv 3) z1n (Zr zc)) (zO (z6 zf (z6 zf z7))) (zo _))))) (zd (zm Z2)) zu)
  (z8 (zH (zk qe (zx zr (pv 3) zc (fun _ _=>rfl)) zf (zo _)) (zd (zm (zU qe (zx zS (zx zr (pv 2) zc (fun _ _=>rfl)) zc (fun _ _=>rfl)) zc (zo _)))) zu)
  (z8 (zH (zk Qd (zx zr (pv 3) zc (fun _ _=>rfl)) (zF (z6 zf (z6 zf (z6 zf (z6 zf (z6 zf (z6 zf (z6 zf z7)))))))) rfl) (zd (zm Z2)) zu)
  (z8 (zI (i:=4) z5c.nd rfl (Or.inl rfl) (zp FP hr rfl (z6 (zx zr (pv 3) zc (fun _ _=>rfl)) (z6 (zx zS (zx zr (pv 2) zc (fun _ _=>rfl)) zc (fun _ _=>rfl)) (z6 (zx zS (zx zr (pv 2) zc (fun _ _=>rfl)) zc (fun _ _=>rfl)) z7)))))
  (zd (zm (jh (zU qe (zx zS (pv 4) zc (fun _ _=>rfl)) zf (zo _)) (j8 (zp FC hr rfl (z6 (zx zS (pv 4) zc (fun _ _=>rfl)) z7))))))))) ) ?_
 rintro D σ H (⟨c,a,o,t,sl,as,rfl,hs,hn,q⟩ | ⟨c,a,t,sl,ol,ax,ay,az,x,y,z,rfl,hs,ho,gx,gy,gz,fx,fy,fz,q⟩)
 ·refine ⟨_,rfl,sl,_,rfl,.inl (SqL.of hs),_,_,rfl,rfl,true,congrArg V.bl (kf ?_),iteT (iteT q)⟩
  lia
 refine ⟨_,rfl,sl,_,rfl,.inl (SqL.of hs),_,_,rfl,rfl,false,rfl,iteF ?_⟩
 refine ⟨_,rfl,_,rfl,ol,_,rfl,SqL.of ho,fun t1 ht1=>⟨by show 2≤sizeLine;decide,fun t2 ht2=>?_⟩⟩
 have s1:=zg ht1 (.lst (cutV [.str x.op,.str y.op,.str z.op] none (some 2)))
 have s2:=zg ht2 (.lst [.str "push",.str "push"])
 have s12:=s1.trans s2
 refine ⟨t1,[x.op,y.op],rfl,SqL.of (s2 _ _ zb),.inr ⟨t2,["push","push"],rfl,SqL.of zb,!(isP x&&isP y),by rw [z56],?_⟩⟩
 cases hp:isP x&&isP y with
 | false=>exact iteT (by rw [z0P hp] at q;exact q _ s12)
 | true=>
  refine iteF ?_
  have hx:isP x=true:=by revert hp;cases isP x <;> simp
  have hy:isP y=true:=by revert hp;cases isP x <;> simp
  have px:=fx.1 (ku hx)
  have py:=fy.1 (ku hy)
  refine ⟨_,rfl,ol,_,_,_,rfl,rfl,SqL.of (s12 _ _ ho),zi (j:=2) rfl,rfl,decide (z.op="swap"),congrArg V.bl qP,?_⟩
  by_cases hsw:z.op="swap"
  ·rw [kf hsw]
   obtain ⟨n,hn⟩:=fz.2 (.inr hsw)
   have gz':=s12 _ _ gz
   rw [show tupV z=[.str z.op,z.arg,.int z.line] from rfl,hn] at gz'
   refine iteT ⟨_,rfl,sl,_,_,_,rfl,rfl,SqL.of (s12 _ _ hs),zi (j:=2) rfl,az,_,_,_,rfl,rfl,SqT.of gz',zi (j:=1) rfl,rfl,?_⟩
   have:e3 x y z=decide (V.int n=.int 2):=by
    unfold e3
    rw [hsw,show tagT.lookup ("swap":Str)=some 4 by trivial,hp,hn]
    rfl
   rw [this] at q
   exact q _ s12
  ·rw [ke hsw]
   refine iteF ⟨_,rfl,ol,_,_,_,rfl,rfl,SqL.of (s12 _ _ ho),zi (j:=2) rfl,z3m (L:=Zl) ⟨by show 7≤sizeLine;decide,fun t3 ht3=>?_⟩⟩
   have s3:=s12.trans (zg ht3 (.tup (Zl.map V.str)))
   refine ⟨t3,_,rfl,.inr (SqT.of zb),rfl,rfl,!inT z.op Zl,rfl,?_⟩
   cases hi:inT z.op Zl with
   | false=>exact iteT (by rw [z7G hsw hi] at q;exact q _ s3)
   | true=>
    refine iteF ?_
    have hm:z.op∈Zl:=jI.mp hi
    have ht:=z93 _ hm
    obtain ⟨r1,r2,em,hs2⟩:=Q3 ht px py
    refine ⟨_,rfl,ol,_,_,_,rfl,rfl,SqL.of (s3 _ _ ho),zi (j:=2) rfl,_,rfl,sl,_,_,_,rfl,rfl,SqL.of (s3 _ _ hs),zi (j:=0) rfl,ax,_,_,_,rfl,rfl,SqT.of (s3 _ _ gx),zi (j:=1) rfl,_,rfl,sl,_,_,_,rfl,rfl,SqL.of (s3 _ _ hs),zi (j:=1) rfl,ay,_,_,_,rfl,rfl,SqT.of (s3 _ _ gy),zi (j:=1) rfl,?_⟩
    refine ⟨z.op,x.arg,y.arg,r1,r2,rfl,jp (zM px).1,jp (zM py).1,hm,em,fun t4 H4 s4 h4=>?_⟩
    have s34:=s3.trans s4
    have hee:e3 x y z=(decide (r1=.non)&&zP r2):=by
     unfold e3
     rw [ht,hp,em]
     rfl
    rw [hee] at q
    by_cases h1:r1=.non
    ·subst h1
     refine ⟨_,rfl,t4,_,_,_,rfl,rfl,SqT.of h4,zi (j:=0) rfl,rfl,true,rfl,iteT ?_⟩
     refine ⟨_,rfl,t4,_,_,_,rfl,rfl,SqT.of h4,zi (j:=1) rfl,r2,rfl,jp hs2,?_⟩
     rw [z3a (z0z em) hs2]
     exact q _ s34
    ·have e:tagV r1 r2=[.str "kind",r1]:=by cases r1 <;> first | rfl | exact absurd rfl h1
     rw [e] at h4
     rw [ke h1,Bool.false_and] at q
     exact ⟨_,rfl,t4,_,_,_,rfl,rfl,SqT.of h4,zi (j:=0) rfl,rfl,false,rfl,iteF (q _ s34)⟩
end
theorem z7g {X:Cx} {K:kn} (hK:X.K=K):IxR X (rIxT K):=by subst hK;exact zS
theorem nd1 {x:Str}:[x].Nodup:=by simp
theorem cut3 {as:List Addr} {a:Nat} (ha:a < as.length):cutV (as.map V.ref) (some (a:Int)) (some ((a:Int)+3))=((as.drop a).take 3).map V.ref:=by
 unfold cutV
 rw [show ((a:Int)+3)=((a+3:Nat):Int) by lia,HT.sIx_nat,HT.sIx_nat,kg,Nat.min_eq_left (show a≤as.length by lia),←List.map_drop,←List.map_take]
 congr 1
 by_cases h:a+3≤as.length
 ·rw [Nat.min_eq_left h]
  congr 1
  lia
 ·rw [Nat.min_eq_right (show as.length≤a+3 by lia)]
  rw [List.take_of_length_le (by rw [List.length_drop];lia),List.take_of_length_le (by rw [List.length_drop];lia)]
theorem z9u {x y z:Row} {b:Bool} (h:l2o x y=some b):(e2 x y||e3 x y z)=b:=by
 rw [←z7e,←z4d,h]
 show (b||e3 x y z)=b
 cases b with
 | true=>rfl
 | false=>
  rw [Bool.false_or]
  unfold l2o at h
  split at h
  ·cases h
  ·split at h
   ·cases h
   ·split at h
    ·cases h
    ·split at h
     ·rename_i hn
      rw [kX] at hn
      refine z0P ?_
      have:=ku hn.2
      have:isP y=false:=by unfold isP;rw [this];decide+kernel
      rw [this,Bool.and_false]
     ·split at h <;> cases h
theorem z9t {x y:Row} {b:Bool} (h:l2o x y=some b):e2 x y=b:=by
 rw [←z7e,←z4d,h];rfl
theorem z8A {x y:Row} (h:l2o x y=none):e2 x y=false:=by
 rw [←z7e,←z4d,h];rfl
theorem z6g {rs:List Row} (hF:qt rs) {a:Nat} {x y z:Row} (e:rs[a]?=some x) (e1:rs[a+1]?=some y) (e2':rs[a+2]?=some z):ji rs a=(e2 x y||e3 x y z):=by
 unfold ji
 rw [z2h hF e e1,z33 hF e e1 e2']
theorem JU {rs:List Row} {i:Nat} (h:rs[i]?=none):zQ rs i=none:=by
 unfold zQ
 rw [h]
theorem z6h {rs:List Row} (hF:qt rs) {a:Nat} {x y:Row} (e:rs[a]?=some x) (e1:rs[a+1]?=some y) (e2':rs[a+2]?=none):ji rs a=e2 x y:=by
 unfold ji
 rw [z2h hF e e1,JU e2']
 exact Bool.or_false _
theorem z6i {rs:List Row} {a:Nat} (e1:rs[a+1]?=none):ji rs a=false:=by
 unfold ji
 have:rs[a+2]?=none:=List.getElem?_eq_none (by have:=List.getElem?_eq_none_iff.mp e1;lia)
 rw [JU e1,JU this]
 rfl
def z3A:Sp:=fun vs H Q _=>∃(l:Addr) (as:List Addr) (rs:List Row) (a:Nat),vs=[.ref l,.int (a:Nat)]∧H l=some (.lst (as.map V.ref))∧zv H as rs∧rs.length≤200∧a < rs.length∧qt rs∧∀H',Same H H'→Q (.bl (ji rs a)) H'
theorem z4J {rs:List Row} {a:Nat} (h:a < rs.length):(∃x,rs[a]?=some x∧rs[a+1]?=none∧(rs.drop a).take 3=[x])∨(∃x y,rs[a]?=some x∧rs[a+1]?=some y∧rs[a+2]?=none∧(rs.drop a).take 3=[x,y])∨(∃x y z,rs[a]?=some x∧rs[a+1]?=some y∧rs[a+2]?=some z∧(rs.drop a).take 3=[x,y,z]):=by
 have e:∀j,rs[a+j]?=(rs.drop a)[j]?:=fun j=>by rw [List.getElem?_drop]
 have e0:rs[a]?=(rs.drop a)[0]?:=e 0
 rw [e0,e 1,e 2]
 have hl:0 < (rs.drop a).length:=by rw [List.length_drop];lia
 match hd:rs.drop a with
 | []=>rw [hd] at hl;exact absurd hl (by decide)
 | [x]=>exact .inl ⟨x,rfl,rfl,rfl⟩
 | [x,y]=>exact .inr (.inl ⟨x,y,rfl,rfl,rfl,rfl⟩)
 | x :: y :: z :: t=>exact .inr (.inr ⟨x,y,z,rfl,rfl,rfl,rfl⟩)
section
theorem z7F (D:zt K mg "_law_foldable" (top 102)) (G:Glo mg) (FW:FN P w K mg base 1 "_law_whole" ["_law_thing"] (sp1 jb)) (FP:FN P w K mg base 2 "_law_pair" ["_law_op","_law_one","_law_other"] z3t) (FC:FN P w K mg base 2 "_law_can_push" ["_law_value_here"] z6V):
  FN P w K mg base 3 "_law_foldable" ["_law_code_here","_law_at"] z3A:=by
 refine FN.o D z5c fun f cdv A outer s H vs Q E hr h=>?_
 obtain ⟨l,as,rs,a,rfl,hl,hR,hn,ha,hF,q⟩:=h
 have hll:as.length=rs.length:=hR.len
 refine ⟨_,z8 (zI (i:=2) z5c.nd rfl (Or.inl rfl) (ZE JC (pv 0) (Zr (pv 1)) (Zr (zG j9 (pv 1) zc))))
  (z8 (jR (N:=["_law_row"]) (nt:=1) (ix:=[]) (cl:=[]) (i:=3) rfl z5c.nd rfl (Or.inl rfl) (jF.plain (by trivial) (by trivial) rfl (by trivial) rfl) (ZZ (pv 2))
   (fun _ _ _ _=>zB (i:=0) nd1 rfl (Or.inl rfl)) (fun _ _ _ _=>QQ) (fun _ _ _ _=>zx (z7g (K:=K) rfl) (pv 0) zc (fun _ _=>rfl)))
  (z8 (z9K G (hr.mono (by decide)) FW) (z9J G hr FP FC))),?_⟩
 refine ⟨_,rfl,_,rfl,_,rfl,_,rfl,_,_,rfl,rfl,_,rfl,l,_,rfl,SqL.of hl,fun p hp=>?_⟩
 rw [cut3 (by lia)]
 have s1:=zg hp (.lst (((as.drop a).take 3).map V.ref))
 have hR1:zv (upd H p (.lst (((as.drop a).take 3).map V.ref))) ((as.drop a).take 3) ((rs.drop a).take 3):=(zv.cut hR a 3).same s1
 have hl1:upd H p (.lst (((as.drop a).take 3).map V.ref)) p=some (.lst (((as.drop a).take 3).map V.ref)):=zb
 have hFc:qt ((rs.drop a).take 3):=fun r hr=>hF r (List.mem_of_mem_drop (List.mem_of_mem_take hr))
 generalize hcs:(rs.drop a).take 3=cs at hR1 hFc
 have hcl:cs.length≤3:=by rw [←hcs,List.length_take];lia
 generalize (as.drop a).take 3=bs at *
 generalize upd H p (.lst (bs.map V.ref))=H1 at *
 have hbl:bs.length=cs.length:=hR1.len
 refine ⟨_,rfl,p,rfl,⟨_,SqL.of hl1⟩,fun gl hgl=>Q7 (K:=K) (a:=p) (xs:=bs.map V.ref) (fun i ys σ H2=>(∃a,σ=[a])∧ys=(cs.take i).map (fun r=>V.str r.op)∧Same H1 H2∧H2 gl=some (.lst ys))
  ⟨⟨none,rfl⟩,rfl,zg hgl _,zb⟩ (fun i ys σ H2 _ ⟨_,_,s2,_⟩=>s2.seq (SqL.of hl1)) ?_ ?_⟩
 ·rintro i x ys σ H2 hi ⟨⟨b,rfl⟩,rfl,s2,hp2⟩
  obtain ⟨t,r,rfl,er,ht⟩:=(hR1.same s2).get hi
  have hic:i < cs.length:=(kd.mp er).1
  refine ZM ?_
  refine QI ⟨_,rfl,t,_,_,_,rfl,rfl,SqT.of ht,zi (j:=0) rfl,hp2,?_,_,?_,rfl,?_,⟨_,rfl⟩,?_,?_,zb⟩
  ·rw [kg,List.length_take];exact Nat.lt_of_le_of_lt (Nat.min_le_right _ _) (qh (by lia))
  ·rw [kg];lia
  ·rw [kg];lia
  ·rw [jL er,kE];rfl
  ·exact My.Same.upd s2 hgl _
 ·rintro ys σ H2 ⟨⟨b,rfl⟩,rfl,s2,hp2⟩
  rw [kg,hbl,List.take_length] at hp2
  have s12:=s1.trans s2
  have hl2:=s2 _ _ hl1
  have hR2:=hR1.same s2
  rcases z4J ha with ⟨x,g0,g1,g2⟩ | ⟨x,y,g0,g1,g2,g3⟩ | ⟨x,y,z,g0,g1,g2,g3⟩
  ·rw [hcs] at g2
   subst g2
   rw [z6i g1] at q
   cases hR2 with
   | cons b1 b2=>
    cases b2
    exact .inl ⟨_,_,_,_,p,_,rfl,hl2,.inl ⟨_,_,_,_,p,_,rfl,hl2,by simp,q H2 s12⟩⟩
  ·rw [hcs] at g3
   subst g3
   rw [z6h hF g0 g1 g2] at q
   have fx:=hFc x (by simp)
   have fy:=hFc y (by simp)
   cases hR2 with
   | cons b1 b2=>
    cases b2 with
    | cons b3 b4=>
     cases b4
     refine .inr ⟨_,_,_,p,gl,_,_,_,_,x,y,rfl,hl2,hp2,b1,b3,fx,fy,?_⟩
     cases ho:l2o x y with
     | some b=>
      rw [z9t ho] at q
      exact fun H' s'=>q H' (s12.trans s')
     | none=>
      rw [z8A ho] at q
      exact fun H' s'=>.inl ⟨_,_,_,_,p,_,rfl,s' _ _ hl2,by simp,q H' (s12.trans s')⟩
  ·rw [hcs] at g3
   subst g3
   rw [z6g hF g0 g1 g2] at q
   have fx:=hFc x (by simp)
   have fy:=hFc y (by simp)
   have fz:=hFc z (by simp)
   cases hR2 with
   | cons b1 b2=>
    cases b2 with
    | cons b3 b4=>
     cases b4 with
     | cons b5 b6=>
      cases b6
      refine .inr ⟨_,_,_,p,gl,_,_,_,_,x,y,rfl,hl2,hp2,b1,b3,fx,fy,?_⟩
      cases ho:l2o x y with
      | some b=>
       rw [z9u ho] at q
       exact fun H' s'=>q H' (s12.trans s')
      | none=>
       rw [z8A ho,Bool.false_or] at q
       exact fun H' s'=>.inr ⟨_,_,_,p,gl,_,_,_,x,y,z,rfl,s' _ _ hl2,s' _ _ hp2,s' _ _ b1,s' _ _ b3,s' _ _ b5,fx,fy,fz,fun H'' s''=>q H'' ((s12.trans s').trans s'')⟩
end
noncomputable def rowD (r:Row):PyData:=.tuple [.str r.op,jJ r.arg,.int r.line]
noncomputable def Zu (rs:List Row):PyData:=.list (rs.map rowD)
theorem z3Y:∀p∈jG,(jJ (.str p.1)).shown.length≤60:=by trivial
theorem JQ {x:V} (h:qO x 4=true):Za x:=by
 cases x with
 | str s=>
  unfold qO at h
  simp only [kX,kY] at h
  obtain ⟨⟨⟨_,h2⟩,h3⟩,_⟩:=h
  refine ⟨rfl,by show (PyData.str s).showable=true;simp only [PyData.showable],?_⟩
  show (PyData.str s).shown.length≤60
  simp only [PyData.shown]
  have:=StrLaws.reprText_len s (fun c hc=>?_)
  ·lia
  ·unfold Txt.isascii at h3
   rw [Array.all_eq_true'] at h3
   have:=h3 c (by simpa using hc)
   have h4:c < 128:=by simpa using this
   exact Nat.lt_trans h4 (by decide)
 | _=>cases h
theorem Q9 {x:V} {lo hi:Int} (h:ql x lo hi=true) (h0: -1000≤lo) (h1:hi≤1000):Za x:=by
 cases x with
 | int i=>
  unfold ql at h
  rw [kX,kY,kY] at h
  exact ZT (ke (by lia))
 | _=>cases h
theorem z1i:∀p∈jG,p.2="value"→p.1="push":=by trivial
theorem z3B:∀p∈jG,p.2∈(["value","name","copied","swapped","mark","none"]:List Str):=by trivial
theorem Jm {k:Nat} {rs:List Row} (g:Good 0 k rs) (hk:k≤90) {r:Row} (hr:r∈rs):Za (.str r.op)∧Za r.arg∧Za (.int r.line):=by
 obtain ⟨s,hs,l0,l1,hp,h⟩:=g.row r hr
 have hm:(r.op,s)∈jG:=PySem.mem_of_lookup hs
 refine ⟨⟨rfl,by show (PyData.str r.op).showable=true;simp only [PyData.showable],z3Y (r.op,s) hm⟩,?_,ZT (ke (by lia))⟩
 rcases h with ⟨rfl,m,e⟩ | ⟨hn,hf⟩
 ·have:=(g.labI m (g.mark hr hs e)).2
  rw [e]
  exact ZT (ke (by lia))
 ·have ha:=z3B (r.op,s) hm
  simp only [kw,kl,or_false] at ha
  rcases ha with e | e | e | e | e | e
  ·exact z43 (hp (z1i (r.op,s) hm e))
  ·subst e
   have:z2C r.arg=true:=hf
   unfold z2C at this
   rw [kX] at this
   exact JQ this.1
  ·subst e;exact Q9 (show ql r.arg 1 9=true from hf) (by decide) (by decide)
  ·subst e;exact Q9 (show ql r.arg 2 9=true from hf) (by decide) (by decide)
  ·exact absurd e hn
  ·subst e
   have:decide (r.arg=V.non)=true:=hf
   rw [ku this]
   exact ⟨rfl,by trivial,by trivial⟩
theorem z5d {r:Row} (h:Za (.str r.op)∧Za r.arg∧Za (.int r.line)):(rowD r).showable=true∧(rowD r).hasDict=false∧(rowD r).depth≤2∧(rowD r).shown.length≤200:=by
 have e:rowD r=.tuple (([.str r.op,r.arg,.int r.line]:List V).map jJ):=rfl
 obtain ⟨a,b,c,d⟩:=z0Y (xs:=[.str r.op,r.arg,.int r.line]) (fun x hx=>by
  simp only [kw,kl,or_false] at hx
  rcases hx with rfl | rfl | rfl
  ·exact h.1
  ·exact h.2.1
  ·exact h.2.2)
 obtain ⟨e1,f1⟩:=Qh [.str r.op,r.arg,.int r.line]
 rw [e]
 refine ⟨by simp only [PyData.showable];exact b,by simp only [PyData.hasDict];exact e1,by simp only [PyData.depth,f1];lia,?_⟩
 simp only [PyData.shown]
 have l:=tupleText_len_le (PyData.shownAll (([.str r.op,r.arg,.int r.line]:List V).map jJ))
 have l3:([.str r.op,r.arg,.int r.line]:List V).length=3:=rfl
 lia
theorem z0j:∀{rs:List Row},(∀r∈rs,Za (.str r.op)∧Za r.arg∧Za (.int r.line))→PyData.showableAll (rs.map rowD)=true∧PyData.hasDictAll (rs.map rowD)=false∧PyData.depthAll (rs.map rowD)≤2∧((PyData.shownAll (rs.map rowD)).map (fun t=>t.length)).sum≤200 * rs.length∧(PyData.shownAll (rs.map rowD)).length=rs.length
 | [],_=>⟨by simp only [List.map_nil,PyData.showableAll],by simp only [List.map_nil,PyData.hasDictAll],by simp only [List.map_nil,PyData.depthAll];lia,by simp only [List.map_nil,PyData.shownAll];decide,by simp only [List.map_nil,PyData.shownAll];rfl⟩
 | r :: rs,h=>by
  obtain ⟨a,b,c,d,e⟩:=z0j (rs:=rs) fun y hy=>h y (kL _ hy)
  obtain ⟨f1,f2,f3,f4⟩:=z5d (h r (kK ..))
  refine ⟨by simp only [kN,PyData.showableAll,f1,a,Bool.and_self],by simp only [kN,PyData.hasDictAll,f2,b,Bool.or_self],by simp only [kN,PyData.depthAll];lia,?_,?_⟩
  ·simp only [kN,PyData.shownAll,List.sum_cons,kJ]
   lia
  ·simp only [kN,PyData.shownAll,kJ]
   lia
theorem z4N {k:Nat} {rs:List Row} (g:Good 0 k rs) (hk:k≤90) (hl:rs.length≤200):z52 (Zu rs):=by
 obtain ⟨a,b,c,d,e⟩:=z0j (fun r hr=>Jm g hk hr)
 refine ⟨by simp only [Zu,PyData.showable];exact a,by simp only [Zu,PyData.hasDict];exact b,by simp only [Zu,PyData.depth];lia,?_⟩
 simp only [Zu,PyData.shown]
 have:=listText_len_le (PyData.shownAll (rs.map rowD))
 lia
theorem z3K {K:kn} {H:Hp}:∀{as:List Addr} {rs:List Row},zv H as rs→(∀r∈rs,Za r.arg)→RdVs K H (as.map V.ref) (rs.map rowD)
 | _,_,.nil,_=>.nil
 | _,r :: _,.cons h t,hb=>.cons (.tup (SqT.of h) (.cons (.flat (x:=.str _) rfl) (.cons (.flat (hb r (kK ..)).1) (.cons (.flat (x:=.int _) rfl) .nil)))) (z3K t fun r hr=>hb r (kL _ hr))
theorem ZX {K:kn} {H:Hp} {l:Addr} {as:List Addr} {rs:List Row} {k:Nat} (hl:H l=some (.lst (as.map V.ref))) (hR:zv H as rs) (g:Good 0 k rs) (hk:k≤90) (hn:rs.length≤200) {Q:VK} {E:XK} (q:Q (.str (Zu rs).shown) H):z1c K [.ref l] H Q E:=
 ⟨l,Zu rs,rfl,.lst (SqL.of hl) (z3K hR fun r hr=>(Jm g hk hr).2.1),z4N g hk hn,q⟩
theorem z2a:∀(ts:List Str) (k:Nat) (acc:Str),∃t,textFrom k acc ts=acc++t
 | [],k,acc=>⟨Str.empty,by unfold textFrom;rw [Str.append_empty]⟩
 | x :: ts,k,acc=>by
  obtain ⟨t,e⟩:=z2a ts (k+1) (acc++(if k > 0 then ", " else "":String)++x)
  refine ⟨(if k > 0 then ", " else "":String)++x++t,?_⟩
  unfold textFrom
  rw [e,Str.append_assoc,Str.append_assoc,Str.append_assoc]
theorem z2b:∀(a b:List Str) (k:Nat) (acc:Str),textFrom k acc (a++b)=textFrom (k+a.length) (textFrom k acc a) b
 | [],b,k,acc=>rfl
 | x :: a,b,k,acc=>by
  show textFrom (k+1) _ (a++b)=textFrom (k+(a.length+1)) (textFrom (k+1) _ a) b
  rw [z2b a b (k+1)]
  rw [show k+1+a.length=k+(a.length+1) by lia]
theorem z0g:∀a b:List PyData,PyData.shownAll (a++b)=PyData.shownAll a++PyData.shownAll b
 | [],b=>by simp only [List.nil_append,PyData.shownAll]
 | x :: a,b=>by simp only [List.cons_append,PyData.shownAll,z0g a b]
theorem z6Y (r:Row):∃t,(rowD r).shown=("(":Str)++(reprText r.op++t):=by
 refine ⟨", "++Str.join ", " [(jJ r.arg).shown,(PyData.int r.line).shown]++")",?_⟩
 simp only [rowD,PyData.shown,PyData.shownAll]
 unfold tupleText
 show ("(":Str)++(reprText r.op++", "++Str.join ", " [(jJ r.arg).shown,_])++")"=_
 simp only [Str.append_assoc]
noncomputable def z8H (pre:List Row):Str:=textFrom 0 "[" (PyData.shownAll (pre.map rowD))++(if (PyData.shownAll (pre.map rowD)).length > 0 then ", " else "":String)
theorem z1T (pre:List Row) (r:Row) (tl:List Row):∃t,(Zu (pre++r :: tl)).shown=z8H pre++(("(":Str)++(reprText r.op++t)):=by
 obtain ⟨t1,e1⟩:=z6Y r
 simp only [Zu,PyData.shown]
 unfold listText
 rw [kE,z0g,z2b]
 simp only [kN,PyData.shownAll]
 unfold textFrom
 obtain ⟨t2,e2⟩:=z2a (PyData.shownAll (tl.map rowD)) (0+(PyData.shownAll (pre.map rowD)).length+1) (textFrom 0 "[" (PyData.shownAll (pre.map rowD))++(if 0+(PyData.shownAll (pre.map rowD)).length > 0 then ", " else "":String)++(rowD r).shown)
 rw [e2,e1]
 refine ⟨t1++(t2++"]"),?_⟩
 unfold z8H
 simp only [Str.append_assoc,Nat.zero_add]
theorem Q6 (a b:Str):(a++b).cps.toList=a.cps.toList++b.cps.toList:=by
 rw [Str.cps_append,Array.toList_append]
theorem z5o:(reprText "copy").cps.toList=[39,99,111,112,121,39]∧(reprText "push").cps.toList=[39,112,117,115,104,39]∧(reprText "jump").cps.toList=[39,106,117,109,112,39]∧∀op∈ors2,((reprText op).cps.toList.take 2)=[39,111]:=by trivial
theorem z6j {pre tl tl':List Row} {r y:Row} (h:Alt r y):(Zu (pre++r :: tl)).shown≠(Zu (pre++y :: tl')).shown:=by
 intro e
 obtain ⟨t1,e1⟩:=z1T pre r tl
 obtain ⟨t2,e2⟩:=z1T pre y tl'
 rw [e1,e2] at e
 have e:=congrArg (fun s=>s.cps.toList) e
 rw [Q6,Q6,Q6,Q6,Q6,Q6] at e
 have e:=List.append_cancel_left (List.append_cancel_left e)
 obtain ⟨o1,o2,o3,o4⟩:=z5o
 rcases h with ⟨h1,h2⟩ | ⟨h1,h2⟩
 ·rw [h1,h2,o1,o2] at e
  simp at e
 ·rw [h2,o3] at e
  have o:=o4 _ h1
  generalize (reprText r.op).cps.toList=L at e o
  match L,o with
  | a :: b :: L,o=>
   simp at o e
   lia
end My
namespace L2
open PySem PySem.Spec PyProof.Rows
variable {X:Cx}
def rNeE (K:kn):R2:=fun x y H Q=>∃p q xs,x=.ref p∧y=.ref q∧SqL K H p xs∧SqL K H q []∧Q (.bl (!decide (xs=[]))) H
theorem z8s (hu:X.A.units < cLine):OpR X (compareOp .NotEq) (rNeE X.K):=by
 intro pins s σ H x y v u Q I rx ry h
 obtain ⟨p,q,xs,rfl,rfl,h1,h2,hq⟩:=h
 cases rx
 cases ry
 obtain ⟨its,r,pl,_⟩:=I.list h1
 obtain ⟨its2,r2,pl2,_⟩:=I.list h2
 cases r2
 cases r with
 | nil=>
  refine SeqAt.RcNeAt.lists (e:=fun _=>true) pl.isList pl2.isList rfl hu (fun j h1 _=>absurd h1 (by simp)) X.prog X.w X.xe _ ⟨.bl _,H,I,rfl,?_⟩
  simpa using hq
 | cons a b=>
  refine SeqAt.RcNeAt.lists_lengths pl.isList pl2.isList (by simp) hu X.prog X.w X.xe _ ⟨.bl _,H,I,rfl,?_⟩
  simpa using hq
theorem z40:OpR X (compareOp .IsNot) (fun x y H Q=>∃b c,x=.bl b∧y=.bl c∧Q (.bl (!decide (b=c))) H):=by
 intro pins s σ H x y v u Q I rx ry h
 obtain ⟨b,c,rfl,rfl,q⟩:=h
 cases rx
 cases ry
 exact PySem.wpAny_isNot_plain rfl (zT I q (by cases b <;> cases c <;> rfl))
end L2
namespace My
open PySem PySem.Spec PyProof.Rows L2
variable {P:Program} {w:World} {K:kn} {mg:Str→Option Value} {base:Heap}
noncomputable def z00:Scope:=match (zV (top 106)).getD 3 (.Pass ⟨0,0,0,0⟩) with
 | .If (.BoolOp _ (.Compare (.ListComp _ _ s _) _ _ _ :: _) _) _ _ _=>s
 | _=>ze (top 106)
noncomputable def JZ:Scope:=match (zV (top 106)).getD 4 (.Pass ⟨0,0,0,0⟩) with
 | .Assign _ (.ListComp _ _ s _) _=>s
 | _=>ze (top 106)
noncomputable def N106:List Str:=["_law_script","_law_town_here","_law_code_here","_law_other","_law_some"]
theorem z3H:zn N106 ["_law_script"] (ze (top 106)):=fsM
noncomputable def z0u:List (Str × NameKind):=[(".0",.local),("_law_at",.local),("_law_foldable",.globalImplicit),("_law_other",.cell)]
noncomputable def z2k (L:Addr):List (Str × Addr):=[("_law_other",L+2)]
noncomputable def z7T:List Str:=["_law_at","_law_other"]
theorem z67 (f:Addr) (cdv:Value) (L:Addr):closureFor z00 (envOfC "law" (ze (top 106)) L f cdv)=pure (z2k L):=by rfl
theorem z70 (f:Addr) (cdv:Value) (L:Addr):(relabel z00 (envOfC "law" (ze (top 106)) L f cdv)).names=z0u:=by rfl
theorem z8v:z7T.Nodup:=by trivial
theorem z8W {P:Program} {w:World} {K:kn} {mg:Str→Option Value} {base:Heap} {f:Addr} {cdv:Value} {A:Around} {outer:List Env} {s:Shared} {H:Hp} {E:XK}:
  jF (cxOf CX0 P w K mg base N106 "law" (ze (top 106)) f cdv A outer s H E).nox z7T 1 [3] z00 (z2k s.heap.objs.size) where
 clos:=z67 f cdv s.heap.objs.size
 nocell:=by trivial
 kind:=rfl
 names:=by trivial
 sub:=fun x c e=>by
  have hm:=PySem.mem_of_lookup e
  simp only [z2k,kw,Prod.mk.injEq,kl,or_false] at hm
  obtain ⟨rfl,rfl⟩:=hm
  rfl
 has:=fun x h=>by
  have e:=z70 f cdv s.heap.objs.size
  have h:z0u.lookup x=some .cell∨z0u.lookup x=some .free:=by rw [←e];exact h
  have:x="_law_other":=by
   rcases h with h | h
   ·have hm:=PySem.mem_of_lookup h
    simp only [z0u,kw,Prod.mk.injEq,kl,or_false] at hm
    rcases hm with z | z | z | z
    all_goals first | exact z.1 | exact z.2.elim | cases z.2
   ·have hm:=PySem.mem_of_lookup h
    simp only [z0u,kw,Prod.mk.injEq,kl,or_false] at hm
    rcases hm with z | z | z | z
    all_goals first | exact z.2.elim | cases z.2
  subst this
  exact ⟨_,rfl⟩
 len:=rfl
 free:=fun j x e=>by
  match j,e with
  | 0,e=>
   cases e
   refine ⟨3,rfl,rfl,rfl,rfl,fun c h=>?_⟩
   exact h
  | j+1,e=>exact absurd e (by rw [List.getElem?_eq_none (by show 2≤1+(j+1);lia)];exact nofun)
noncomputable def z0t:List (Str × NameKind):=[(".0",.local),("_law_at",.local),("_law_foldable",.globalImplicit),("_law_code_here",.cell)]
noncomputable def z2j (L:Addr):List (Str × Addr):=[("_law_code_here",L+1)]
noncomputable def z7S:List Str:=["_law_at","_law_code_here"]
theorem z66 (f:Addr) (cdv:Value) (L:Addr):closureFor JZ (envOfC "law" (ze (top 106)) L f cdv)=pure (z2j L):=by rfl
theorem z6Z (f:Addr) (cdv:Value) (L:Addr):(relabel JZ (envOfC "law" (ze (top 106)) L f cdv)).names=z0t:=by rfl
theorem z8u:z7S.Nodup:=by trivial
theorem z8V {P:Program} {w:World} {K:kn} {mg:Str→Option Value} {base:Heap} {f:Addr} {cdv:Value} {A:Around} {outer:List Env} {s:Shared} {H:Hp} {E:XK}:
  jF (cxOf CX0 P w K mg base N106 "law" (ze (top 106)) f cdv A outer s H E).nox z7S 1 [2] JZ (z2j s.heap.objs.size) where
 clos:=z66 f cdv s.heap.objs.size
 nocell:=by trivial
 kind:=rfl
 names:=by trivial
 sub:=fun x c e=>by
  have hm:=PySem.mem_of_lookup e
  simp only [z2j,kw,Prod.mk.injEq,kl,or_false] at hm
  obtain ⟨rfl,rfl⟩:=hm
  rfl
 has:=fun x h=>by
  have e:=z6Z f cdv s.heap.objs.size
  have h:z0t.lookup x=some .cell∨z0t.lookup x=some .free:=by rw [←e];exact h
  have:x="_law_code_here":=by
   rcases h with h | h
   ·have hm:=PySem.mem_of_lookup h
    simp only [z0t,kw,Prod.mk.injEq,kl,or_false] at hm
    rcases hm with z | z | z | z
    all_goals first | exact z.1 | exact z.2.elim | cases z.2
   ·have hm:=PySem.mem_of_lookup h
    simp only [z0t,kw,Prod.mk.injEq,kl,or_false] at hm
    rcases hm with z | z | z | z
    all_goals first | exact z.2.elim | cases z.2
  subst this
  exact ⟨_,rfl⟩
 len:=rfl
 free:=fun j x e=>by
  match j,e with
  | 0,e=>
   cases e
   refine ⟨2,rfl,rfl,rfl,rfl,fun c h=>?_⟩
   exact h
  | j+1,e=>exact absurd e (by rw [List.getElem?_eq_none (by show 2≤1+(j+1);lia)];exact nofun)
noncomputable def jM (rs:List Row) (n:Nat):List V:=((List.range n).filter (ji rs)).map fun (i:Nat)=>V.int (i:Int)
theorem z2y (rs:List Row) (n:Nat):(jM rs n).length≤n:=by
 unfold jM
 rw [kg]
 have:=List.length_filter_le (ji rs) (List.range n)
 rw [List.length_range] at this
 exact this
theorem QR (rs:List Row) (n:Nat):jM rs (n+1)=if ji rs n=true then jM rs n++[V.int (n:Int)] else jM rs n:=by
 unfold jM
 rw [List.range_succ,List.filter_append,kE]
 cases h:ji rs n with
 | true=>rw [kq rfl,List.filter_cons,kq h];rfl
 | false=>rw [ko ka,List.filter_cons,ko (by rw [h];exact ka)];exact kO _
theorem ZY {rs:List Row} (hF:qt rs):jM rs rs.length=[]↔NG rs:=by
 rw [←z4Y hF]
 unfold jM
 rw [List.map_eq_nil_iff,List.filter_eq_nil_iff]
 constructor
 ·intro h a ha
  exact Bool.eq_false_iff.mpr (h a (List.mem_range.mpr ha))
 ·intro h a ha
  rw [h a (List.mem_range.mp ha)]
  exact ka
theorem z0v {rs:List Row} (h:NG rs):jP rs=true:=by
 unfold jP
 rw [List.all_eq_true]
 intro i hi
 rw [h i (List.mem_range.mp hi)]
 rfl
theorem z4q {rs:List Row} (h:jP rs=true):NG rs:=by
 intro i hi
 unfold jP at h
 rw [List.all_eq_true] at h
 have:=h i (List.mem_range.mpr hi)
 unfold z5w at this
 split at this
 ·assumption
 ·cases this
theorem z8F {rs:List Row} (hF:qt rs):jP rs=decide (jM rs rs.length=[]):=by
 rw [Bool.eq_iff_iff,decide_eq_true_iff,ZY hF]
 exact ⟨z4q,z0v⟩
section
theorem z0k {l nl:Addr} {as:List Addr} {rs:List Row} {H1:Hp} {R:Hp→Prop} (hl:H1 l=some (.lst (as.map V.ref))) (hR:zv H1 as rs) (hn:rs.length≤200) (hF:qt rs) (hnl:H1 nl=none) (hd:∀H4,Same H1 H4→H4 nl=some (.lst (jM rs rs.length))→R H4):
  ∃W:Nat→Nat→List V→L2.St→Hp→Prop,(∃m,W 0 m [] [none,some (.ref l)] (upd H1 nl (.lst [])))∧∀i m ys σ' H2,W i m ys σ' H2→
   ((Itr 0 (as.map V.ref).length).stop i H2∧R H2)∨((Itr 0 (as.map V.ref).length).go i H2∧∀x H3,(Itr 0 (as.map V.ref).length).yld i H2 x H3→z1w 0 x σ' H3 fun σ2 H4=>tB (z2w z3A [] E0 (qV (tVar 1) (qV (tVar 0) tNil))) σ2 H4 fun b H5=>if b=true then tVar 0 σ2 H5 fun v H6=>H6 nl=some (.lst ys)∧ys.length < sizeLine∧∃m',m' < m∧W (i+1) m' (ys++[v]) σ2 (upd H6 nl (.lst (ys++[v])))
    else ∃m',m' < m∧W (i+1) m' ys σ2 H5):=by
 have hll:as.length=rs.length:=hR.len
 refine J8 (n:=(as.map V.ref).length) (fun i ys σ H4=>(∃x:Option V,σ=[x,some (.ref l)])∧ys=jM rs i∧Same H1 H4∧H4 nl=some (.lst ys)) ⟨⟨none,rfl⟩,rfl,zg hnl _,zb⟩ ?_ ?_
 ·rintro i ys σ H4 hi ⟨⟨x,rfl⟩,rfl,s4,hn4⟩
  rw [kg] at hi
  refine ZM ?_
  refine ⟨_,rfl,_,rfl,l,as,rs,i,rfl,s4 _ _ hl,hR.same s4,hn,by lia,hF,fun H5 s5=>⟨_,rfl,?_⟩⟩
  cases hb:ji rs i with
  | true=>
   refine iteT ⟨_,rfl,s5 _ _ hn4,?_,as.length - (i+1),by rw [kg];lia,by rw [kg],by rw [kg];lia,⟨_,rfl⟩,?_,?_,zb⟩
   ·exact Nat.lt_of_le_of_lt (z2y rs i) (qh (by lia))
   ·rw [QR,kq hb]
   ·exact fun c o e=>by rw [zl (zh e hnl)];exact s5 _ _ (s4 c o e)
  | false=>
   refine iteF ⟨as.length - (i+1),by rw [kg];lia,by rw [kg],by rw [kg];lia,⟨_,rfl⟩,?_,s4.trans s5,s5 _ _ hn4⟩
   rw [QR,ko (by rw [hb];exact ka)]
 ·rintro ys σ H4 ⟨_,rfl,s4,hn4⟩
  rw [kg,hll] at hn4
  exact hd H4 s4 hn4
end
theorem z2O {k:Nat} {rs:List Row} (g:Good 0 k rs):qt rs:=fun r hr=>⟨fun hp=>(Jl (g.row r hr) hp).2,fun hc=>by
 obtain ⟨n,e,_⟩:=QB (g.row r hr) hc
 exact ⟨n,e⟩⟩
structure DrwC (k:Nat) (Γ:Int→Option Sta) (rs:List Row):Prop where
 good:Good 0 k rs
 dom:∀m,Γ m≠none→0≤m∧m < (k:Int)
 ok:chk Γ rs (some (0,[]))=some none
 hk:k≤90
 hi:rs.length≤140
theorem DrwC.lo {k:Nat} {Γ:Int→Option Sta} {rs:List Row} (d:DrwC k Γ rs):1≤rs.length:=by
 have h:=d.ok
 cases rs with
 | nil=>unfold chk at h;cases h
 | cons r rs=>simp
theorem DrwC.code {k:Nat} {Γ:Int→Option Sta} {rs:List Row} (d:DrwC k Γ rs):Code rs:=d.good.code d.hk d.lo (by have:=d.hi;lia)
theorem DrwC.sound {k:Nat} {Γ:Int→Option Sta} {rs:List Row} (d:DrwC k Γ rs):(ZW rs).isSome=true:=by
 obtain ⟨S,T⟩:=d.good.typed ⟨Γ,d.dom,d.ok⟩
 obtain ⟨fin,h,_⟩:=z3o T (by have:=d.hi;lia)
 rw [h]
 rfl
theorem DrwC.fr {k:Nat} {Γ:Int→Option Sta} {rs:List Row} (d:DrwC k Γ rs):qt rs:=z2O d.good
theorem DrwC.folded {k:Nat} {Γ:Int→Option Sta} {rs:List Row} (d:DrwC k Γ rs):∃out,qx [] rs=some out∧NG out∧DrwC k Γ out∧out.length≤rs.length:=by
 obtain ⟨out,h1,h2,h3,h4⟩:=z4p rs [] (fun i hi=>by cases hi) qt.nil d.fr
 have h5:=z2Q (k:=k) (Γ:=Γ) rs [] out ⟨d.good,d.ok⟩ h1
 have hl:out.length≤rs.length:=by simpa using h4
 have g:=h5.good
 have o:=h5.ok
 rw [kO] at g o
 exact ⟨out,h1,h2,⟨g,d.dom,o,d.hk,by have:=d.hi;lia⟩,hl⟩
theorem DrwC.at_ {k:Nat} {Γ:Int→Option Sta} {rs:List Row} (d:DrwC k Γ rs):∀i,i < rs.length→(zQ rs i).isSome=true:=fun i hi=>by
 obtain ⟨res,h⟩:=ZN d.fr hi
 rw [h]
 rfl
theorem z1x {rs out:List Row} (hf:qx [] rs=some out) (hN:NG out) (hn:¬NG rs) (hl:¬out.length < rs.length) (hle:out.length≤rs.length):(Zu out).shown≠(Zu rs).shown:=by
 rcases z2R rs [] out hf (by rw [List.length_nil];lia) with e | ⟨pre,r,y,tl,tl',e1,e2,ha⟩
 ·rw [e] at hN
  exact absurd hN hn
 ·rw [e1,e2,List.nil_append]
  exact fun z=>z6j ha z.symm
section
def z58 (K:kn):Sp:=fun vs H Q _=>∃(a:Addr) (ns:List Int),vs=[.ref a]∧Scr K H a (ns.map V.int)∧ns.length≤63∧∀H',Q (.bl true) H'
theorem z8P {f:Addr} {fd:FuncData} (D:Fun K "law" "law" (top 106) f fd) (G:Glo mg) (FT:FN P w K mg base 1 "_law_town" ["_law_script"] (z6p K)) (FC:FN P w K mg base 18 "_law_some_code" ["_law_script","_law_town_here"] (z6q K))
  (FF:FN P w K mg base 11 "folded" ["code"] z0c) (FI:FN P w K mg base 11 "is_folded" ["code"] Jj) (FA:FN P w K mg base 3 "_law_foldable" ["_law_code_here","_law_at"] z3A) (FS:FN P w K mg base 2 "_law_shown" ["_law_thing"] (z1c K)):FnOk P w K mg base CX0 19 f fd ["_law_script"] (z58 K):=by
 refine D.ok z3H (fun vs H Q E h=>by obtain ⟨a,ns,rfl,_⟩:=h;rfl) (fun cdv A outer s H vs Q E hr h=>?_)
 obtain ⟨a,ns,rfl,hS,hns,q⟩:=h
 have hr1:=hr.mono (show 1≤18 by decide)
 have hr2:=hr.mono (show 2≤18 by decide)
 have hr3:=hr.mono (show 3≤18 by decide)
 have hr11:=hr.mono (show 11≤18 by decide)
 have hu:(A.deeper (envOfC "law" (ze (top 106)) s.heap.objs.size f cdv)).units < cLine:=hr.units0
 refine ⟨_,z8 (zI (i:=1) z3H.nd rfl (Or.inl rfl) (zp FT hr1 rfl (z6 (pv 0) z7)))
  (z8 (zI (i:=2) z3H.nd rfl (Or.inr rfl) (zp FC hr rfl (z6 (pv 0) (z6 (pv 1) z7))))
  (z8 (zI (i:=3) z3H.nd rfl (Or.inr rfl) (zp FF hr11 rfl (z6 (pv 2) z7)))
  (z8 (zH (PW.pt (Zq (zk (z8s hu) (JI (N:=z7T) (nt:=1) (ix:=[3]) (cl:=z2k s.heap.objs.size) rfl z8W (qA rfl G.range (z6 (zw zy rfl G.len zW (z6 (pv 3) z7)) z7))
    (fun _ _ _ _=>zB (i:=0) z8v rfl (Or.inl rfl)) (fun _ _ _ _=>z1m (qz (zp FA hr3 rfl (z6 (pv 1) (z6 (pv 0) z7))))) (fun _ _ _ _=>pv 0)) (zO z7) (zo _))
   (jr (zk z40 (zp FI hr11 rfl (z6 (pv 3) z7)) Z2 (zo _))))) (zd (zm Z2)) zu)
  (z8 (jR (i:=4) (N:=z7S) (nt:=1) (ix:=[2]) (cl:=z2j s.heap.objs.size) rfl z3H.nd rfl (Or.inl rfl) z8V (qA rfl G.range (z6 (zw zy rfl G.len zW (z6 (pv 2) z7)) z7))
    (fun _ _ _ _=>zB (i:=0) z8u rfl (Or.inl rfl)) (fun _ _ _ _=>z1m (qz (zp FA hr3 rfl (z6 (pv 1) (z6 (pv 0) z7))))) (fun _ _ _ _=>pv 0))
  (z8 (zH (PW.pt (Zq (zk z0p (zU z6z (zp FI hr11 rfl (z6 (pv 2) z7)) Z2 (zo _)) (zU (z0r hu) (pv 4) (zO z7) (zo _)) (zo _))
   (jr (zk qe (zU z6z (zp FI hr11 rfl (z6 (pv 2) z7)) Z2 (zo _)) (zU (z0r hu) (pv 4) (zO z7) (zo _)) (zo _))))) (zd (zm Z2)) zu)
  (z8 (zH (PW.pt (Zq (zk z0p (zp FS hr2 rfl (z6 (zp FF hr11 rfl (z6 (pv 3) z7)) z7)) (zp FS hr2 rfl (z6 (pv 3) z7)) (zo _))
   (jr (PW.pt (js (zk (z0r hu) (pv 4) (zO z7) (zo _)) (qX (zk z0p (zp FS hr2 rfl (z6 (pv 3) z7)) (zp FS hr2 rfl (z6 (pv 2) z7)) (zo _)))))))) (zd (zm Z2)) zu)
  (zd (zm (z3T (zU (z0r hu) (pv 4) (zO z7) (zo _)) (z3T (zU Q2 (zw zy rfl G.len zW (z6 (pv 3) z7)) (zw zy rfl G.len zW (z6 (pv 2) z7)) (zo _)) (j8 (zU z0p (zp FS hr2 rfl (z6 (pv 3) z7)) (zp FS hr2 rfl (z6 (pv 2) z7)) (zo _))))))))))))),?_⟩
 refine ⟨_,rfl,a,ns,rfl,hS,by lia,fun t H1 s1 ht hT1=>?_⟩
 have hS1:Scr K H1 a (ns.map V.int):=hS.keep fun o u e=>s1 _ _ e
 refine ⟨_,rfl,_,rfl,a,t,ns,0,ns,rfl,hS1,by lia,rfl,hT1,by lia,fun l as rs k c2 cells2 H2 hl2 hR2 gd hΓ hk hlo hhi hlt hcl2 hT2 hc2 kp2=>?_⟩
 obtain ⟨Γ,hdom,hok⟩:=hΓ
 have d:DrwC k Γ rs:=⟨gd,hdom,hok,hk,hhi⟩
 obtain ⟨out,hf,hN,d2,hle⟩:=d.folded
 have hhi2:=d2.hi
 clear hS hS1 hT1 hT2 kp2 ht s1 hcl2 hc2 hlt gd hdom hok
 refine ⟨_,rfl,l,as,rs,[],out,rfl,hl2,hR2,d.code,d.sound,by lia,hf,fun l3 as3 H3 s3 hl3 hR3=>?_⟩
 have hle3:as3.length=out.length:=hR3.len
 have hl3r:=s3 _ _ hl2
 have hR3r:=hR2.same s3
 have hle2:as.length=rs.length:=hR2.len
 clear s3 hl2 hR2
 refine ⟨_,rfl,l3,_,rfl,.inl (SqL.of hl3),_,rfl,by lia,by rw [kg];lia,fun nl hnl=>z0k hl3 hR3 (by lia) d2.fr hnl fun H4 s4 hn4=>?_⟩
 rw [(ZY d2.fr).mpr hN] at hn4
 refine ⟨by show 0≤sizeLine;decide,fun e4 he4=>?_⟩
 have s5:=zg he4 (.lst [])
 refine ⟨nl,e4,[],rfl,rfl,SqL.of (s5 _ _ hn4),SqL.of zb,false,rfl,iteF ?_⟩
 have s35:=s4.trans s5
 refine ⟨_,rfl,l3,as3,out,rfl,s35 _ _ hl3,hR3.same s35,d2.code,d2.sound,by lia,d2.at_,fun H6 s6=>?_⟩
 rw [z0v hN]
 refine ⟨_,_,rfl,rfl,false,rfl,iteF ?_⟩
 have s36:=s35.trans s6
 have hl6:=s36 _ _ hl3
 have hR6:=hR3.same s36
 have hl6r:=s36 _ _ hl3r
 have hR6r:=hR3r.same s36
 clear hl3 hR3 hl3r hR3r s36 s35 s6 s5 s4 hn4 hnl he4
 refine ⟨_,rfl,l,_,rfl,.inl (SqL.of hl6r),_,rfl,by lia,by rw [kg];lia,fun sl hsl=>z0k hl6r hR6r (by lia) d.fr hsl fun H7 s7 hs7=>?_⟩
 have isf:=z8F d.fr
 have hne:jM rs rs.length=[]↔NG rs:=ZY d.fr
 generalize jM rs rs.length=ys at isf hne hs7
 refine ⟨_,rfl,l,as,rs,rfl,s7 _ _ hl6r,hR6r.same s7,d.code,d.sound,by lia,d.at_,fun H8 s8=>⟨_,rfl,?_⟩⟩
 refine ⟨_,rfl,by show 0≤sizeLine;decide,fun e8 he8=>?_⟩
 have s9:=zg he8 (.lst [])
 have s89:=s8.trans s9
 refine ⟨sl,e8,ys,rfl,rfl,SqL.of (s89 _ _ hs7),SqL.of zb,rfl,false,?_,iteF ?_⟩
 ·rw [isf]
  cases decide (ys=[]) <;> rfl
 have s79:=s7.trans s89
 refine ⟨_,rfl,l,as,rs,rfl,s79 _ _ hl6r,hR6r.same s79,d.code,d.sound,by lia,d.at_,fun H10 s10=>⟨_,rfl,?_⟩⟩
 refine ⟨_,rfl,by show 0≤sizeLine;decide,fun e10 he10=>?_⟩
 have s11:=zg he10 (.lst [])
 have s1011:=s10.trans s11
 have s911:=s89.trans s1011
 refine ⟨sl,e10,ys,rfl,rfl,SqL.of (s911 _ _ hs7),SqL.of zb,rfl,false,?_,iteF ?_⟩
 ·rw [isf]
  cases decide (ys=[]) <;> rfl
 have s711:=s7.trans s911
 generalize upd H10 e10 (.lst [])=H11 at *
 have hl11:=s711 _ _ hl6
 have hR11:=hR6.same s711
 have hl11r:=s711 _ _ hl6r
 have hR11r:=hR6r.same s711
 have hs11:=s911 _ _ hs7
 clear s711 s911 s1011 s11 s10 s89 s9 s8 s79 s7 hl6 hR6 hl6r hR6r hs7 he10 he8 hsl
 refine ⟨_,rfl,l3,as3,out,[],out,rfl,hl11,hR11,d2.code,d2.sound,by lia,J6 out [] (by rw [List.nil_append];exact hN),fun l12 as12 H12 s12 hl12 hR12=>?_⟩
 refine ZX hl12 hR12 d2.good d2.hk (by lia) ?_
 refine ⟨_,rfl,ZX (s12 _ _ hl11) (hR11.same s12) d2.good d2.hk (by lia) ?_⟩
 refine ⟨rfl,false,?_,iteF ?_⟩
 ·rw [kf rfl];rfl
 have hl12':=s12 _ _ hl11
 have hR12':=hR11.same s12
 have hl12r:=s12 _ _ hl11r
 have hR12r:=hR11r.same s12
 have hs12:=s12 _ _ hs11
 clear hl11 hR11 hl11r hR11r hs11 s12 hl12 hR12
 refine ⟨_,rfl,by show 0≤sizeLine;decide,fun e12 he12=>?_⟩
 have s13:=zg he12 (.lst [])
 generalize hH13:upd H12 e12 (.lst [])=H13 at *
 have he13:H13 e12=some (.lst []):=by rw [←hH13];exact zb
 have hl13:=s13 _ _ hl12'
 have hR13:=hR12'.same s13
 have hl13r:=s13 _ _ hl12r
 have hR13r:=hR12r.same s13
 have hs13:=s13 _ _ hs12
 clear hl12' hR12' hl12r hR12r hs12 s13
 by_cases hy:ys=[]
 ·have hNr:=hne.mp hy
  have ho:=J6 rs [] (by rw [List.nil_append];exact hNr)
  rw [hf] at ho
  have ho:out=rs:=by simpa using ho
  refine ⟨sl,e12,ys,rfl,rfl,SqL.of hs13,SqL.of he13,true,congrArg V.bl (kf hy),iteT ?_⟩
  refine ⟨_,rfl,ZX hl13 hR13 d2.good d2.hk (by lia) ?_⟩
  refine ⟨_,rfl,ZX hl13r hR13r d.good d.hk (by lia) ?_⟩
  refine ⟨rfl,false,?_,iteF ?_⟩
  ·rw [ho,kf rfl];rfl
  refine ⟨_,rfl,by show 0≤sizeLine;decide,fun e14 he14=>?_⟩
  have s14:=zg he14 (.lst [])
  refine ⟨sl,e14,ys,rfl,rfl,SqL.of (s14 _ _ hs13),SqL.of zb,true,congrArg V.bl (kf hy),iteT (q _)⟩
 ·have hNr:¬NG rs:=fun z=>hy (hne.mpr z)
  refine ⟨sl,e12,ys,rfl,rfl,SqL.of hs13,SqL.of he13,false,congrArg V.bl (ke hy),iteF (iteF ?_)⟩
  refine ⟨_,rfl,by show 0≤sizeLine;decide,fun e14 he14=>?_⟩
  have s14:=zg he14 (.lst [])
  refine ⟨sl,e14,ys,rfl,rfl,SqL.of (s14 _ _ hs13),SqL.of zb,false,congrArg V.bl (ke hy),iteF ?_⟩
  refine ⟨_,rfl,l3,_,rfl,.inl (SqL.of (s14 _ _ hl13)),_,rfl,l,_,rfl,.inl (SqL.of (s14 _ _ hl13r)),_,_,rfl,rfl,decide (out.length < rs.length),?_,?_⟩
  ·rw [kg,kg,hle3,hle2]
   refine congrArg V.bl ?_
   rw [Bool.eq_iff_iff,decide_eq_true_iff,decide_eq_true_iff]
   lia
  by_cases hlt:out.length < rs.length
  ·rw [kf hlt]
   exact iteT (q _)
  ·rw [ke hlt]
   refine iteF ⟨_,rfl,ZX (s14 _ _ hl13) (hR13.same s14) d2.good d2.hk (by lia) ?_⟩
   refine ⟨_,rfl,ZX (s14 _ _ hl13r) (hR13r.same s14) d.good d.hk (by lia) ?_⟩
   refine ⟨rfl,?_⟩
   have:decide (V.str (Zu out).shown=V.str (Zu rs).shown)=false:=ke fun z=>z1x hf hN hNr hlt hle (V.str.inj z)
   rw [this]
   exact q _
end
section
end
def LK (K:kn) (f:Addr) (x q:Str) (st:Stmt):Prop:=∃(oc:Value) (od an:Option Addr) (osl:Array (Option Value)) (kV doc pm cdv ct:Value),K.lookup f=some ⟨oc,od,.func (PySem.W.fnOf x q (qH st) (zV st) (ze st) .none kV doc pm an cdv ct),osl⟩∧PySem.W.codeIn K cdv q=true∧PySem.W.keepIn K (.ref f)=true
theorem lk_mk {K:kn} {f:Addr} {x q:Str} {st:Stmt} {oc:Value} {od an:Option Addr} {osl:Array (Option Value)} {kV doc pm cdv ct:Value} (l:K.lookup f=some ⟨oc,od,.func (PySem.W.fnOf x q (qH st) (zV st) (ze st) .none kV doc pm an cdv ct),osl⟩) (c:PySem.W.codeIn K cdv q=true) (k:PySem.W.keepIn K (.ref f)=true):LK K f x q st:=⟨_,_,_,_,_,_,_,_,_,l,c,k⟩
def HD (K:kn) (f:Addr) (x:Str) (n:Nat):Prop:=PySem.W.nsIn K mainGlobals x=some (some (.ref f))∧LK K f x x (top n)
theorem hdm {K:kn} {f:Addr} {x:Str} {n:Nat} {oc:Value} {od an:Option Addr} {osl:Array (Option Value)} {kV doc pm cdv ct:Value} (a:PySem.W.nsIn K mainGlobals x=some (some (.ref f))) (l:K.lookup f=some ⟨oc,od,.func (PySem.W.fnOf x x (qH (top n)) (zV (top n)) (ze (top n)) .none kV doc pm an cdv ct),osl⟩) (c:PySem.W.codeIn K cdv x=true) (k:PySem.W.keepIn K (.ref f)=true):HD K f x n:=⟨a,lk_mk l c k⟩
theorem z9x {K:kn} {h:Heap} {mg:Str→Option Value} {x:Str} {n:Nat} {f:Addr} (X:K.In h) (G:h.Ns mainGlobals mg) (l:HD K f x n):zt K mg x (top n):=by
 obtain ⟨a,_,_,_,_,_,_,_,_,_,l,c,k⟩:=l
 exact ⟨f,_,z6C l c k,ki X G a⟩
def CN (K:kn) (x:Str) (i:Int):Prop:=∃u,PySem.W.nsIn K mainGlobals x=some (some u)∧RelV (.int i) u
theorem cnm {K:kn} {x:Str} {i:Int} {u:Value} (a:PySem.W.nsIn K mainGlobals x=some (some u)) (r:RelV (.int i) u):CN K x i:=⟨u,a,r⟩
theorem z1J {K:kn} {h:Heap} {mg:Str→Option Value} {x:Str} {i:Int} (X:K.In h) (G:h.Ns mainGlobals mg) (l:CN K x i):∃u,mg x=some u∧RelV (.int i) u:=l.elim fun u q=>⟨u,ki X G q.1,q.2⟩
def KT (K:kn) (w:World) (x:Str) (tab:List (Str × V)):Prop:=∃a,PySem.W.nsIn K mainGlobals x=some (some (.ref a))∧KTab w.params K a tab
theorem ktm {K:kn} {w:World} {x:Str} {tab:List (Str × V)} {a:Addr} {e:Array DictEntry} {n:Nat} (h:PySem.W.nsIn K mainGlobals x=some (some (.ref a))) (l:K.lookup a=some ⟨.type "dict",none,.dict e n,#[]⟩) (k:PySem.W.KeysLit w.params e.toList) (m:(a == sysModules)=false)
  (p:Paired (fun (p:Str × V) (e:DictEntry)=>(∃t,e.key=.str p.1 t)∧RelV p.2 e.val) tab e.toList):KT K w x tab:=⟨a,h,e,n,l,k,m,p⟩
theorem ktg {K:kn} {w:World} {h:Heap} {mg:Str→Option Value} {x:Str} {tab:List (Str × V)} (X:K.In h) (G:h.Ns mainGlobals mg) (l:KT K w x tab):∃d,mg x=some (.ref d)∧KTab w.params K d tab:=l.elim fun d q=>⟨d,ki X G q.1,q.2⟩
def KU (K:kn) (x:Str) (xs:List V):Prop:=∃a,PySem.W.nsIn K mainGlobals x=some (some (.ref a))∧KTup K a xs
theorem z7f {K:kn} {a:Addr} {xs:List V} {o:Obj} {its:Array Value} {n:Nat} (l:K.lookup a=some o) (c:o.cls=.type "tuple") (d:o.data=.seq its n) (v:Vals xs its.toList) (z:xs.length≤1000):KTup K a xs:=
 ⟨o,its,n,l,c,d,by have h1:xs.length=its.toList.length:=v.length;have h2:its.toList.length=its.size:=Array.length_toList;exact z1S (by lia),v⟩
theorem kum {K:kn} {x:Str} {a:Addr} {xs:List V} {o:Obj} {its:Array Value} {n:Nat} (h:PySem.W.nsIn K mainGlobals x=some (some (.ref a))) (l:K.lookup a=some o) (c:o.cls=.type "tuple") (d:o.data=.seq its n) (v:Vals xs its.toList) (z:xs.length≤1000):KU K x xs:=⟨a,h,z7f l c d v z⟩
theorem kug {K:kn} {h:Heap} {mg:Str→Option Value} {x:Str} {xs:List V} (X:K.In h) (G:h.Ns mainGlobals mg) (l:KU K x xs):∃a,mg x=some (.ref a)∧KTup K a xs:=l.elim fun d q=>⟨d,ki X G q.1,q.2⟩
theorem all_mk {l:PySem.W.OpenLaw} {w:World} {K:kn} {h:Heap} {mg:Str→Option Value} {fa T89 gfirst:Addr} {to89:Obj} {n89:Nat} (X:K.In h) (G:h.Ns mainGlobals mg) (hfa:mg "law"=some (.ref fa))
  {f12 f13 f14 f15 f16 f17 f18 f19 f20 f21 f22 f24 f25 f26 f27 f28 f29 f30 f31 f32 f42 f43 f44 f45 f46 f47 f48 f49 f50 f51 f52 f53 f56 f57 f58 f59 f60 f61 f62 f64 f65 f68 f69 f70 f71 f72 f73 f74 f75 f76 f77 f79 f80 f81 f82 f84 f85 f86 f87 f88 f90 f91 f92 f93 f94 f95 f96 f97 f98 f99 f100 f101 f102 f103 f104 f105 f106 f89:Addr} {od89 an89:Option Addr} {sl89:Array (Option Value)} {oc89 kV89 dc89 pm89 cd89 ct89:Value}
  {tfirst:Addr} {ofirst:Obj} {ifirst:Array Value} {nfirst:Nat}
{ogfirst:Obj} {igfirst:Array Value} {ngfirst:Nat}
  (l12:HD K f12 "is_number" 12)
  (l13:HD K f13 "is_number_within" 13)
  (l14:HD K f14 "is_letters" 14)
  (l15:HD K f15 "is_name" 15)
  (l16:HD K f16 "is_kind" 16)
  (l17:HD K f17 "is_mark" 17)
  (l18:HD K f18 "is_value_within" 18)
  (l19:HD K f19 "is_pushed" 19)
  (l20:HD K f20 "is_copied" 20)
  (l21:HD K f21 "is_swapped_with" 21)
  (l22:HD K f22 "is_none" 22)
  (l24:HD K f24 "is_op" 24)
  (l25:HD K f25 "arg_sort" 25)
  (l26:HD K f26 "arg_fits" 26)
  (l27:HD K f27 "is_row" 27)
  (l28:HD K f28 "label_places" 28)
  (l29:HD K f29 "mark_fits" 29)
  (l30:HD K f30 "first_bad_place" 30)
  (l31:HD K f31 "has_places" 31)
  (l32:HD K f32 "check_code" 32)
  (l42:HD K f42 "uppermost" 42)
  (l43:HD K f43 "depth_asked" 43)
  (l44:HD K f44 "lacks_values" 44)
  (l45:HD K f45 "lacks_guard" 45)
  (l46:HD K f46 "takes_beneath" 46)
  (l47:HD K f47 "moves" 47)
  (l48:HD K f48 "words_lacking" 48)
  (l49:HD K f49 "guards_behind" 49)
  (l50:HD K f50 "next_states" 50)
  (l51:HD K f51 "state_words" 51)
  (l52:HD K f52 "searched" 52)
  (l53:HD K f53 "states" 53)
  (l56:HD K f56 "is_true" 56)
  (l57:HD K f57 "are_same" 57)
  (l58:HD K f58 "sum_of" 58)
  (l59:HD K f59 "difference_of" 59)
  (l60:HD K f60 "product_of" 60)
  (l61:HD K f61 "quotient_of" 61)
  (l62:HD K f62 "rest_of" 62)
  (l64:HD K f64 "made_of_two" 64)
  (l65:HD K f65 "made_of_one" 65)
  (l68:HD K f68 "are_pushes" 68)
  (l69:HD K f69 "pushes_ahead" 69)
  (l70:HD K f70 "fold_drop" 70)
  (l71:HD K f71 "pushed_instead" 71)
  (l72:HD K f72 "fold_one" 72)
  (l73:HD K f73 "fold_two" 73)
  (l74:HD K f74 "fold_copy" 74)
  (l75:HD K f75 "fold_swap" 75)
  (l76:HD K f76 "fold_if" 76)
  (l77:HD K f77 "fold_or" 77)
  (l79:HD K f79 "fold_at" 79)
  (l80:HD K f80 "with_row" 80)
  (l81:HD K f81 "folded" 81)
  (l82:HD K f82 "is_folded" 82)
  (l84:HD K f84 "_law_town" 84)
  (l85:HD K f85 "_law_draw" 85)
  (l86:HD K f86 "_law_pick" 86)
  (l87:HD K f87 "_law_whole" 87)
  (l88:HD K f88 "_law_const" 88)
  (l90:HD K f90 "_law_mark" 90)
  (l91:HD K f91 "_law_value" 91)
  (l92:HD K f92 "_law_tried_value" 92)
  (l93:HD K f93 "_law_moved_value" 93)
  (l94:HD K f94 "_law_deed" 94)
  (l95:HD K f95 "_law_choice" 95)
  (l96:HD K f96 "_law_round" 96)
  (l97:HD K f97 "_law_tried" 97)
  (l98:HD K f98 "_law_code" 98)
  (l99:HD K f99 "_law_pair" 99)
  (l100:HD K f100 "_law_shown" 100)
  (l101:HD K f101 "_law_can_push" 101)
  (l102:HD K f102 "_law_foldable" 102)
  (l103:HD K f103 "_law_dense" 103)
  (l104:HD K f104 "_law_hops" 104)
  (l105:HD K f105 "_law_some_code" 105)
  (l106:HD K f106 "law" 106)
  (a89:PySem.W.nsIn K mainGlobals "_law_put"=some (some (.ref f89)))
  (l89:K.lookup f89=some ⟨oc89,od89,.func (PySem.W.fnOf "_law_put" "_law_put" (qH (top 89)) (zV (top 89)) (ze (top 89)) (.ref T89) kV89 dc89 pm89 an89 cd89 ct89),sl89⟩)
  (c89:PySem.W.codeIn K cd89 "_law_put"=true)
  (k89:PySem.W.keepIn K (.ref f89)=true)
  (t89:K.lookup T89=some to89)
  (s89:to89.data=.seq #[Value.none] n89)
  (z_isinstance:PySem.W.nsIn K mainGlobals "isinstance"=some none)
  (z_int:PySem.W.nsIn K mainGlobals "int"=some none)
  (z_bool:PySem.W.nsIn K mainGlobals "bool"=some none)
  (z_str:PySem.W.nsIn K mainGlobals "str"=some none)
  (z_tuple:PySem.W.nsIn K mainGlobals "tuple"=some none)
  (z_list:PySem.W.nsIn K mainGlobals "list"=some none)
  (z_len:PySem.W.nsIn K mainGlobals "len"=some none)
  (z_range:PySem.W.nsIn K mainGlobals "range"=some none)
  (z_enumerate:PySem.W.nsIn K mainGlobals "enumerate"=some none)
  (z_all:PySem.W.nsIn K mainGlobals "all"=some none)
  (z_dict:PySem.W.nsIn K mainGlobals "dict"=some none)
  (z_max:PySem.W.nsIn K mainGlobals "max"=some none)
  (z_min:PySem.W.nsIn K mainGlobals "min"=some none)
  (z_abs:PySem.W.nsIn K mainGlobals "abs"=some none)
  (q_rows:CN K "MOST_ROWS" 150)
  (q_line:CN K "MOST_LINE" 9999)
  (q_mark:CN K "MOST_MARK" 99)
  (q_pushed:CN K "MOST_PUSHED" 1000000000)
  (q_name:CN K "LONGEST_NAME" 4)
  (q_kind:CN K "LONGEST_KIND" 8)
  (q_made:CN K "MOST_MADE" 1000000000000000000)
  (ta_sorts:KT K w "ARG_SORTS" z3C)
  (ta_tests:KT K w "ARG_TESTS" [("value",.ref f19),("name",.ref f15),("copied",.ref f20),("swapped",.ref f21),("mark",.ref f17),("none",.ref f22)])
  (ta_takes:KT K w "TAKES" (z0H qM))
  (ta_pushes:KT K w "PUSHES" (z0H qK))
  (ta_gput:KT K w "GUARDS_PUT" (z0H qD))
  (ta_reck:KT K w "RECKONINGS" [("add",.ref f58),("sub",.ref f59),("mul",.ref f60),("div",.ref f61),("rest",.ref f62)])
  (ta_way:KT K w "OTHER_WAY" wayT)
  (ta_folds:KT K w "FOLDS" [("drop",.ref f70),("neg",.ref f72),("not",.ref f72),("copy",.ref f74),("swap",.ref f75),("add",.ref f73),("sub",.ref f73),("mul",.ref f73),("div",.ref f73),("rest",.ref f73),("less",.ref f73),("same",.ref f73),("iftrue",.ref f76),("iffalse",.ref f76),("ortrue",.ref f77),("orfalse",.ref f77)])
  (ua_jumping:KU K "JUMPING" (jumping.map V.str))
  (ua_leaving:KU K "LEAVING" (leaving.map V.str))
  (ua_never:KU K "NEVER_ON" (qG.map V.str))
  (ua_faulting:KU K "FAULTING" (faulting.map V.str))
  (ua_first:PySem.W.nsIn K mainGlobals "FIRST_STATE"=some (some (.ref tfirst)))
  (ul_first:K.lookup tfirst=some ofirst)
  (uc_first:ofirst.cls=.type "tuple")
  (ud_first:ofirst.data=.seq ifirst nfirst)
  (uv_first:Vals [.int 0,.ref gfirst] ifirst.toList)
  (ul_gfirst:K.lookup gfirst=some ogfirst)
  (uc_gfirst:ogfirst.cls=.type "tuple")
  (ud_gfirst:ogfirst.data=.seq igfirst ngfirst)
  (uv_gfirst:Vals [] igfirst.toList)
  :∃fd:FuncData,(∀(s:Shared) (v:Value),BindsTo s fd ⟨[v],[]⟩ [("_law_script",v)])∧∀base:Heap,K.In base→base.Ns mainGlobals mg→FnOk l.prog w K mg base CX0 19 fa fd ["_law_script"] (z58 K):=by
 have e:=hfa.symm.trans (ki X G l106.1)
 cases e
 have D {f:Addr} {x:Str} {n:Nat} (l:HD K f x n):zt K mg x (top n):=z9x X G l
 have DP:z54 K mg "_law_put" (top 89):=⟨f89,T89,oc89,kV89,dc89,pm89,cd89,ct89,od89,an89,sl89,to89,n89,ki X G a89,k89,l89,c89,t89,s89⟩
 have GG:Glo mg:=⟨PySem.W.mg_none_of X G z_isinstance,PySem.W.mg_none_of X G z_int,PySem.W.mg_none_of X G z_bool,PySem.W.mg_none_of X G z_str,PySem.W.mg_none_of X G z_tuple,PySem.W.mg_none_of X G z_list,PySem.W.mg_none_of X G z_len,PySem.W.mg_none_of X G z_range,PySem.W.mg_none_of X G z_enumerate,z1J X G q_rows,z1J X G q_line,z1J X G q_mark,z1J X G q_pushed,z1J X G q_name,z1J X G q_kind,PySem.W.mg_none_of X G z_all,PySem.W.mg_none_of X G z_dict,PySem.W.mg_none_of X G z_max,PySem.W.mg_none_of X G z_min,PySem.W.mg_none_of X G z_abs,z1J X G q_made⟩
 obtain ⟨dtests,mtests,ktests⟩:=ktg X G ta_tests
 obtain ⟨dreck,mreck,kreck⟩:=ktg X G ta_reck
 have TT:Tabs w K mg:=⟨ktg X G ta_sorts,⟨dtests,f19,f15,f20,f21,f17,f22,mtests,ktests,ki X G l19.1,ki X G l15.1,ki X G l20.1,ki X G l21.1,ki X G l17.1,ki X G l22.1⟩⟩
 have T2:z6l w K mg:=⟨ktg X G ta_takes,ktg X G ta_pushes,ktg X G ta_gput,kug X G ua_jumping,kug X G ua_leaving,kug X G ua_never,kug X G ua_faulting,⟨tfirst,gfirst,ki X G ua_first,z7f ul_first uc_first ud_first uv_first (by show 2≤1000;decide),z7f ul_gfirst uc_gfirst ud_gfirst uv_gfirst (by decide)⟩⟩
 have TW:WayT w K mg:=⟨ktg X G ta_way⟩
 obtain ⟨dfolds,mfolds,kfolds⟩:=ktg X G ta_folds
 have TF:z6I w K mg:=⟨⟨dfolds,(fun n=>match n with | 1=>f70 | 2=>f72 | 3=>f74 | 4=>f75 | 5=>f73 | 6=>f76 | _=>f77),mfolds,kfolds,ki X G l70.1,ki X G l72.1,ki X G l74.1,ki X G l75.1,ki X G l73.1,ki X G l76.1,ki X G l77.1⟩⟩
 have TR:TabR w K mg:=⟨dreck,f58,f59,f60,f61,f62,mreck,kreck,ki X G l58.1,ki X G l59.1,ki X G l60.1,ki X G l61.1,ki X G l62.1⟩
 obtain ⟨_,_,_,an,_,kV,dc,pm,cd,ct,lk,c,k⟩:=l106
 refine ⟨PySem.W.fnOf "law" "law" (qH (top 106)) (zV (top 106)) (ze (top 106)) .none kV dc pm an cd ct,fun s v=>.of_eq rfl,fun base _ _=>?_⟩
 have nF {x:Str} {ps:List Str} {sp:Sp} {k:Nat} (F:FN l.prog w K mg base k x ps sp):=F
 have num:=nF (z0N (D l12) GG)
 have ql:=z4s (D l13) GG num
 have qO:=nF (z2T (D l14) GG)
 have name:=z7v (D l15) GG qO
 have kind:=z7y (D l16) GG qO
 have mark:=z7w (D l17) GG ql
 have value:=z5Q (D l18) GG ql kind
 have pushed:=z4v (D l19) GG value
 have copied:=z4w (D l20) ql
 have swapped:=z2S (D l21) ql
 have none:=nF (z7t (D l22))
 have op:=nF (z9E (D l24) GG TT)
 have sort:=nF (z7l (D l25) TT)
 have fits:=z7B (D l26) TT sort pushed name copied swapped mark none
 have row:=z8L (D l27) GG op fits ql
 have labs:=z7x (D l28) GG row
 have mfits:=z0M (D l29) sort
 have bad:=z8S (D l30) GG row labs mfits
 have has:=nF (z8Q (D l31) GG)
 have check:=z60 (D l32) has bad
 have up:=up2 (nF (z9B (D l42)))
 have asked:=nF (z61 (D l43) T2)
 have lackV:=z5W (D l44) asked
 have Q5:=nF (z5X (D l45))
 have qI:=z31 (D l46) GG asked
 have moves:=z5T (D l47) T2 lackV Q5
 have words:=z5N (D l48) GG lackV Q5 qI moves
 have gb:=nF (z9G (D l49))
 have next:=z7u (D l50) up moves gb
 have sw:=z9D (D l51) up words
 have searched:=z1z (D l52) GG T2 labs sw next
 have states:=z4t (D l53) check searched
 have tru:=nF (z7j (D l56) GG)
 have same:=nF (z7n (D l57) GG)
 have sum:=nF (z8K (D l58))
 have diff:=nF (z7D (D l59))
 have prod:=nF (z7q (D l60))
 have quot:=nF (z7p (D l61))
 have rest:=nF (z7o (D l62))
 have jz:=z5U (D l64) num same GG TR sum diff prod quot rest
 have J0:=z5V (D l65) num tru
 have town:=nF (z7k (D l84) GG)
 have draw:=nF (z7C (D l85) GG)
 have pick:=z7r (D l86) GG draw
 have whole:=nF (z5P (D l87) GG)
 have const:=z5Z (D l88) pick
 have put:=z8M (P:=l.prog) (w:=w) (base:=base) DP GG
 have mk:=nF (z9F (D l90) GG)
 have S:jE l.prog w K mg base:=⟨draw,pick,const,put.1,put.2,mk⟩
 have VV:=z0L (D l91) (D l92) (D l93) GG S 3
 have DD:=z2g (D l94) (D l95) (D l96) (D l97) S VV 3
 have lcode:=z2U (D l98) GG S VV DD
 have pair:=z7s (D l99) GG whole
 have shown:=nF (z4u (D l100))
 have are:=nF (z8T (D l68) GG)
 have ahead:=z62 (D l69) are
 have inst:=z7z (D l71) pushed
 have fdrop:=nF (z1C (D l70))
 have fone:=z2Y (D l72) ahead J0 inst
 have ftwo:=z2W (D l73) ahead jz inst
 have fcopy:=z1D (D l74) ahead
 have fswap:=z1B (D l75) ahead
 have fif:=z2Z TW (D l76) ahead tru
 have foor:=z2X (D l77) ahead tru
 have fat:=z30 (D l79) TF fdrop fone fcopy fswap ftwo fif foor
 have wth:=z5O (D l80) GG fat
 have folded:=z2V (D l81) states wth
 have isf:=z1A (D l82) GG states fat
 have can:=z8R (D l101) GG whole
 have able:=z7F (D l102) GG whole pair can
 have mv:=z8O (n:=3) (D l93) GG S VV
 have hops:=z7A (D l104) GG S
 have dense:=z5Y (D l103) GG S VV mv DD hops
 have some:=z7m (D l105) S dense lcode
 exact z8P (z6C (st:=top 106) lk c k) GG town some folded isf able shown
theorem z8d {K:kn} {H:Hp} {a:Addr} {xs:List V} (hO:Only H) (h:SqL K H a xs):Scr K H a xs:=by
 rcases h with h | h
 ·rcases h with h | ⟨o,h⟩
  ·rcases hO a with z | ⟨o,ys,z⟩
   ·rw [z] at h;cases h
   ·rw [z] at h;cases h
  ·exact .inl ⟨o,h⟩
 ·exact .inr h
theorem walk {l:PySem.W.OpenLaw} {q:Program} {loose:List Str} {XP:(Str→Option Value)→Heap→Prop} {YP:World→Heap→Prop} {d:DefRec} {K:Params→kn} (hn:l.most=some 63) (hdf:d.params.defaults=[])
  (hY:∀(w:World) (h:Heap),YP w h→(K w.params).In h)
  (F:∀(w:World) (mg:Str→Option Value) (fa:Addr) (h:Heap),(K w.params).In h→h.Ns mainGlobals mg→mg d.name=some (.ref fa)→
   ∃fd:FuncData,(∀(s:Shared) (u:Value),BindsTo s fd ⟨[u],[]⟩ [("_law_script",u)])∧∀base:Heap,(K w.params).In base→base.Ns mainGlobals mg→FnOk l.prog w (K w.params) mg base CX0 19 fa fd ["_law_script"] (z58 (K w.params))):
  PySem.W.WalkO q loose XP YP l.row.toRowW d [] (fun f vs=>PySem.call f vs):=
 L2.z6M (n:=63) (k:=19) (x:="_law_script") (CX:=fun _=>CX0) (sp:=fun w=>z58 (K w.params)) hn (by decide) hdf ⟨rfl,by decide,by decide,rfl⟩ hY F (fun _ _ a ns hl hO hS=>⟨a,ns,rfl,z8d hO hS,hl,fun _=>rfl⟩) fun _ _ _ _ _ z=>z
end My
namespace PySem.W.Fast
def tw5105673956185107153:=Prop
def tw5777760755785981019:=Prop
def tw9296360433889664002:=Prop
def tw1454219785156648487:=Prop
def tw9497945907656264259:=Prop
def tw316514102143019080:=Prop
def tw1176975735165151067:=Prop
def tw9515242367644423802:=Prop
def tw13698048360955963301:=Prop
def tw10426125643436316091:=Prop
def tw3528903376305711396:=Prop
def tw10199354318988768051:=Prop
def tw14442895186254868694:=Prop
def tw550859730669387710:=Prop
def tw14869557710840242666:=Prop
def tw13402640891724300857:=Prop
def tw17643754061406199020:=Prop
def tw1532905827683784112:=Prop
def tw11187973929812520656:=Prop
def tw4584130408075211490:=Prop
def tw3285859953031059425:=Prop
def tw10667965978278278033:=Prop
def tw15452572443179084588:=Prop
def tw9156678896304099913:=Prop
def tw15886500619415505586:=Prop
def tw3520363519792060846:=Prop
def tw12048056826642495367:=Prop
def tw1099786997935966427:=Prop
def tw4419873286371483742:=Prop
def tw4491058772748593153:=Prop
def tw12298059772915329892:=Prop
def tw4135897612330176133:=Prop
def tw9986627191518016938:=Prop
def tw13436231055378572716:=Prop
def tw11930311979851757478:=Prop
def tw5055051069096525434:=Prop
def tw15221209806709932071:=Prop
def tw12798869161161681673:=Prop
def tw10209164474934016114:=Prop
def tw9774394379856643515:=Prop
def tw2257529940240947247:=Prop
def tw5891177449180782854:=Prop
def tw12533650973541477374:=Prop
def tw9840342860782594374:=Prop
def tw4359589691058243886:=Prop
def tw14048895322960730393:=Prop
def tw16002967266952078866:=Prop
def tw17704188385166749297:=Prop
def tw7523194637212750777:=Prop
def tw4361700775904427359:=Prop
def tw7498633149979677338:=Prop
def tw3092117133297227249:=Prop
def tw10299302589577801163:=Prop
def tw11902711398340702967:=Prop
def tw15515405784836723652:=Prop
def tw9563574807059059695:=Prop
def tw15348117752812372481:=Prop
def tw11519117686961666697:=Prop
def tw16932301668260661676:=Prop
def tw4157206338815638501:=Prop
def tw11630328935867623959:=Prop
def tw5587826856885255690:=Prop
def tw6822529714786804032:=Prop
def tw16915470645016011554:=Prop
def tw16472409268878238316:=Prop
def tw10700183255674453818:=Prop
def tw8164005668110941744:=Prop
def tw4961949625528378942:=Prop
def tw12672424055538137059:=Prop
def tw13426244417702134072:=Prop
def tw1462193419119380569:=Prop
def tw742405457713269000:=Prop
def tw234749781942434899:=Prop
def tw529536973988259948:=Prop
def tw5958337225494893492:=Prop
def tw17541053060092493725:=Prop
def tw1191315250883676292:=Prop
def tw1906743188756502811:=Prop
def tw8426798971799828003:=Prop
def tw10335527622381539264:=Prop
def tw14501001857826371202:=Prop
def tw17925384258215065573:=Prop
def tw11356286698621740079:=Prop
def tw4026151001005817321:=Prop
def tw5030944203280556702:=Prop
def tw7328447075739424539:=Prop
def tw16539199913488330184:=Prop
def tw16798657068305975370:=Prop
def tw16131593051203169754:=Prop
def tw8933567498414919238:=Prop
def tw7492102371377302679:=Prop
def tw5312734613080425828:=Prop
def tw14767467671429608371:=Prop
def tw17849293660312457548:=Prop
def tw16364373167927100580:=Prop
def tw16745343075639119971:=Prop
def tw16749348522385944071:=Prop
def tw10654377181405492472:=Prop
def tw10561106145012299093:=Prop
def tw12027893231959348502:=Prop
def tw12996339429388188178:=Prop
def tw2283480497557504744:=Prop
def tw69414778264802052:=Prop
def tw16550838102048051623:=Prop
def tw7537285074954141530:=Prop
def tw7215932318001415403:=Prop
def tw6285040191614719466:=Prop
def tw734138898119960010:=Prop
def tw16950569574821323974:=Prop
def tw3172541193896328996:=Prop
def tw16172578528114110199:=Prop
def tw6012122021747098740:=Prop
def tw16459021049253542911:=Prop
def tw15248526436251307398:=Prop
def tw11309342325655673037:=Prop
def tw8789256864460932259:=Prop
def tw5388663596951873645:=Prop
def tw12673549619886724666:=Prop
def tw11849525312028181438:=Prop
def tw10785849952161257653:=Prop
def tw8018341471551460276:=Prop
def tw15943592676296772274:=Prop
def tw1268874458988922593:=Prop
def tw7317576523658780031:=Prop
def tw16317983856663788926:=Prop
def tw10635065575864489283:=Prop
def tw17312996333117680517:=Prop
def tw4248988804066548162:=Prop
def tw15431481666456513963:=Prop
def tw7363425622247834253:=Prop
def tw10644222591256454391:=Prop
def tw17910397783013725602:=Prop
def tw17287205074728517176:=Prop
def tw12941643214049860704:=Prop
def tw4203021270051977171:=Prop
def tw13056512690104125533:=Prop
def tw11418939547134857076:=Prop
def tw3094701115853657799:=Prop
def tw1944925098504758534:=Prop
def tw13197444509695450237:=Prop
def tw1385777081429181588:=Prop
def tw16279701975793424917:=Prop
def tw4179031660912777645:=Prop
def tw305048472116853797:=Prop
def tw804092199982636349:=Prop
def tw15508019666092448443:=Prop
def tw13829591483307370896:=Prop
def tw17969941481158815411:=Prop
def tw16469568281967520401:=Prop
def tw15213048550514571353:=Prop
def tw17427895641331663283:=Prop
def tw1165732905965986049:=Prop
def tw6459200953577825518:=Prop
def tw4033379813872489195:=Prop
def tw14712817762504950641:=Prop
def tw8903238766108814736:=Prop
def tw539595736760451978:=Prop
def tw16149030986926176842:=Prop
def tw11622863634709415212:=Prop
def tw11636702290074901078:=Prop
def tw7610715734942229976:=Prop
def tw17186741509365979835:=Prop
def tw13478877428745155630:=Prop
def tw1820406046763328738:=Prop
def tw8436589768386056944:=Prop
def tw3103751414666246812:=Prop
def tw6708892414054319099:=Prop
def tw6807009207803952845:=Prop
def tw15382044423783582273:=Prop
def tw10097012582147076362:=Prop
def tw1147522009701800784:=Prop
def tw12565002596728077416:=Prop
def tw17721039672839981703:=Prop
def tw112567504061534027:=Prop
def tw14846608996346228861:=Prop
def tw9455475090630465045:=Prop
def tw2766794811542550618:=Prop
def tw7825248364748044718:=Prop
def tw1880258362356491002:=Prop
def tw17845374550828520631:=Prop
def tw17619882183920601743:=Prop
def tw14439765378166140033:=Prop
def tw8454840944936950519:=Prop
def tw18221076124747093969:=Prop
def tw10752687858943698738:=Prop
def tw9629638568524466495:=Prop
def tw17601101962401091345:=Prop
def tw16629561534657121264:=Prop
def tw14864845329073380503:=Prop
def tw13884827974113296321:=Prop
def tw7586693836618795562:=Prop
def tw7249538410202319208:=Prop
def tw16118103595353321548:=Prop
def tw11712190458185945011:=Prop
def tw10746989603658154836:=Prop
def tw11905978938385298303:=Prop
def tw14977872999208125893:=Prop
def tw12976177241038019767:=Prop
def tw10762484250532422250:=Prop
def tw13231743877010270464:=Prop
def tw14566440943485919492:=Prop
def tw14374603453287560736:=Prop
def tw15734334760007649912:=Prop
def tw15069716523494295500:=Prop
def tw14678158920106854735:=Prop
def tw14790834132378566595:=Prop
def tw3982649621153426958:=Prop
def tw8839083969933755074:=Prop
def tw8369868683130302868:=Prop
def tw13148303815899264127:=Prop
def tw802917404587063742:=Prop
def tw17546005709695080877:=Prop
def tw5488966160659634681:=Prop
def tw2294854397974045510:=Prop
def tw12221415409051222339:=Prop
def tw9685044298169568939:=Prop
def tw17714833071000019117:=Prop
def tw15845117809764550140:=Prop
def tw13101539525013915119:=Prop
def tw6664951462986138201:=Prop
def tw12532165626772418067:=Prop
def tw12372324319789152570:=Prop
def tw13359630831485827548:=Prop
def tw3241244739717862871:=Prop
def tw9701749109299211883:=Prop
def tw11769617611247221923:=Prop
def tw15679247252792206210:=Prop
def tw8160871880118814707:=Prop
def tw6951939212644042833:=Prop
def tw7805864855692585105:=Prop
def tw9715166753854553471:=Prop
def tw17100184641858439841:=Prop
def tw5613845454599061817:=Prop
def tw15431134087688302020:=Prop
def tw9897558803702562313:=Prop
def tw12978678129208030876:=Prop
def tw8008005557923197168:=Prop
def tw9508736203920968164:=Prop
def tw10543178825980762907:=Prop
def tw5759927347364260171:=Prop
def tw6585068141940680455:=Prop
def tw11990459337992974956:=Prop
def tw6582134788679801411:=Prop
def tw4952506757814975653:=Prop
def tw5036445103931068615:=Prop
def tw517312751163448032:=Prop
def tw10780761586765376359:=Prop
def tw11732214188671553305:=Prop
def tw13792483299354683862:=Prop
def tw6834397320308548248:=Prop
def tw4954584648838934644:=Prop
def tw3482820431698744051:=Prop
def tw11002848052431835627:=Prop
def tw1313047135445303594:=Prop
def tw4198713400997701141:=Prop
def tw6737687440995333003:=Prop
def tw11973505968982382900:=Prop
def tw11289143093466461953:=Prop
def tw2478928736998500339:=Prop
def tw16919330064296535691:=Prop
def tw8086373703447589959:=Prop
def tw13989995598129119793:=Prop
def tw9516800180062724845:=Prop
def tw1948689806639624469:=Prop
def tw1712973634487312807:=Prop
def tw2852278927748849453:=Prop
def tw10042499479572932358:=Prop
def tw10390157646234782899:=Prop
def tw6731276024794131016:=Prop
def tw13305670439411429421:=Prop
def tw14015890951069844909:=Prop
def tw17996964024917085871:=Prop
def tw7254989234349611870:=Prop
def tw15726315211890062517:=Prop
def tw3992908553847606798:=Prop
def tw7042659310547366237:=Prop
def tw931956834028986255:=Prop
def tw17857563459279650048:=Prop
def tw4211952112222678748:=Prop
def tw8864380892348041232:=Prop
def tw1322031339247656150:=Prop
def tw7388713464098733815:=Prop
def tw12434779806091606683:=Prop
def tw15740581520725410121:=Prop
def tw13673065589402620214:=Prop
def tw4268201051430804902:=Prop
def tw14495299557687959983:=Prop
def tw5353813085845620550:=Prop
def tw5107255825281412738:=Prop
def tw6192104577313164617:=Prop
def tw3995983543553000375:=Prop
def tw12184380411685104690:=Prop
def tw4475145619620083286:=Prop
def tw6108208118871286908:=Prop
def tw3555141088238359772:=Prop
def tw5485572742587201778:=Prop
def tw13481268755573549168:=Prop
def tw17093224777342109595:=Prop
def tw8237626310708396552:=Prop
def tw4211700434839312001:=Prop
def tw17837415989878807268:=Prop
def tw4674102799890499726:=Prop
def tw17974404532321089622:=Prop
def tw9218752888244210615:=Prop
def tw5351950890769337794:=Prop
def tw15862806813707239167:=Prop
def tw17545862747986772839:=Prop
def tw6390373612929051886:=Prop
def tw7877236402650122457:=Prop
def tw9305391788130653963:=Prop
def tw8824595633291508535:=Prop
def tw1611551182742943237:=Prop
def tw6159558832647704379:=Prop
def tw9761588102954696855:=Prop
def tw5764117369366255280:=Prop
def tw726985913927333873:=Prop
def tw15718574390098580149:=Prop
def tw2385268686561707046:=Prop
def tw2335157872551914648:=Prop
def tw2927799364441409784:=Prop
def tw729466047920990731:=Prop
def tw11717690317537128808:=Prop
def tw15137687247720179910:=Prop
def tw17513604867990543079:=Prop
def tw8605165415444627158:=Prop
def tw13553050674002434610:=Prop
def tw1840282097412291383:=Prop
def tw14987661418082201831:=Prop
def tw7097827964152542560:=Prop
def tw1722802803701587481:=Prop
def tw15632992782082381434:=Prop
def tw2754692670688779762:=Prop
def tw2923001932562327482:=Prop
def tw5426448371682200115:=Prop
def tw8126552424372712672:=Prop
def tw5661640270340304354:=Prop
def tw17094580856887593759:=Prop
def tw17119971604622065936:=Prop
def tw14788362278542820120:=Prop
def tw1901531775752417231:=Prop
def tw9316670756482807701:=Prop
def tw14124935244785052151:=Prop
def tw2648174423076098445:=Prop
def tw5266450434754204200:=Prop
def tw7317234293075219:=Prop
def tw10069975712529536831:=Prop
def tw4425046354534653865:=Prop
def tw2969480146181677978:=Prop
def tw18431155831084640082:=Prop
def tw14722794537435163219:=Prop
def tw11069628954808310989:=Prop
def tw2337977823195543630:=Prop
def tw7942853410682446962:=Prop
def tw17698735102306075112:=Prop
def tw11118301316682269745:=Prop
def tw11188117447681078326:=Prop
def tw4227517698962585424:=Prop
def tw14749253800190834908:=Prop
def tw9466130334346563993:=Prop
def tw11763852733077360975:=Prop
def tw143782271200020318:=Prop
def tw8526028360262338249:=Prop
def tw10052001805573714066:=Prop
def tw17398146341500462573:=Prop
def tw1877378965866140348:=Prop
def tw17882641709403210578:=Prop
def tw4153491320931672185:=Prop
def tw15545184769064153574:=Prop
def tw16396790404030501481:=Prop
def tw1647960591809683682:=Prop
def tw17878424488110687958:=Prop
def tw14267268813261638861:=Prop
def tw5835942142707902020:=Prop
def tw10015450608781386451:=Prop
def tw4185518321428705831:=Prop
def tw1733859077932722978:=Prop
def tw3345597093286824917:=Prop
def tw5680315236850328200:=Prop
def tw8174591469460913490:=Prop
def tw11786325122171474085:=Prop
def tw1349615225243010270:=Prop
def tw15223397061033166810:=Prop
def tw7343611390307366373:=Prop
def tw4543556514994620149:=Prop
def tw7089793799200125183:=Prop
def tw5916140570258018564:=Prop
def tw7340446101256811000:=Prop
def tw3121739546393284973:=Prop
def tw14323227155912201964:=Prop
def tw14734032772098568817:=Prop
def tw12815670308626618822:=Prop
def tw8553059368797141306:=Prop
def tw11748642508523143280:=Prop
def tw14900259974334564751:=Prop
def tw2962324470309885386:=Prop
def tw16266442582153907279:=Prop
def tw8667492640987031791:=Prop
def tw14484507315125286513:=Prop
def tw11320351676317602388:=Prop
def tw6905212232875527693:=Prop
def tw13952158723898717365:=Prop
def tw5310652868755799522:=Prop
def tw10378583025934500588:=Prop
def tw7524379617451308511:=Prop
def tw18167724695441219349:=Prop
def tw12392129776423771058:=Prop
def tw4968929673044707356:=Prop
def tw1391549112126926301:=Prop
def tw10846345724684618374:=Prop
def tw13055661147411815287:=Prop
def tw3934833063311361131:=Prop
def tw274189353798237994:=Prop
def tw2873748437651673626:=Prop
def tw10896712999787139778:=Prop
def tw16655083059833703075:=Prop
def tw14029171239946634462:=Prop
def tw6771182271545134960:=Prop
def tw3664731896753646195:=Prop
def tw6873971014812347169:=Prop
def tw8891557043749499067:=Prop
def tw6999419289813526679:=Prop
def tw4340971767527515617:=Prop
def tw644751248652905101:=Prop
def tw10497823618577955822:=Prop
def tw13508602156133886167:=Prop
def tw2680141511932349947:=Prop
def tw14279065940840616024:=Prop
def tw4038909232737020655:=Prop
def tw10131873952172028942:=Prop
def tw18329075359065952542:=Prop
def tw1267704075650749254:=Prop
def tw7950223703418521501:=Prop
def tw16463793508043411602:=Prop
def tw5587484289544270231:=Prop
def tw8131721106225051767:=Prop
def tw5847202018973711932:=Prop
def tw3808584094389355786:=Prop
def tw15261137711255440680:=Prop
def tw10800367221633172730:=Prop
def tw10134030333460990790:=Prop
def tw12110900699155710122:=Prop
def tw4177351759533223642:=Prop
def tw2202087279664922802:=Prop
def tw16925118299729312639:=Prop
def tw3471986238504059686:=Prop
def tw4799189423077775474:=Prop
def tw16699019767340423185:=Prop
def tw17456480263006714056:=Prop
def tw16034362830870596112:=Prop
def tw18182889222666715495:=Prop
def tw7894344252036594922:=Prop
def tw7090585071989052306:=Prop
def tw438459731153329746:=Prop
def tw8060744490709563079:=Prop
def tw11224361182253327997:=Prop
def tw17338234738716814015:=Prop
def tw12325562205625792791:=Prop
def tw1998032249293215463:=Prop
def tw9161490523856799436:=Prop
def tw6760056911573607715:=Prop
def tw7618804249908900691:=Prop
def tw11300376045408061371:=Prop
def tw12011070553636201877:=Prop
def tw3369663099759083609:=Prop
def tw18277388166739348960:=Prop
def tw6429450841261186155:=Prop
def tw3133745999044795564:=Prop
def tw1061639710858884176:=Prop
def tw671769174312181376:=Prop
def tw10232147439284725336:=Prop
def tw3083371992184736890:=Prop
def tw10354477200866600673:=Prop
def tw7395645310213146516:=Prop
def tw3302770140995672700:=Prop
def tw12079628635447562283:=Prop
def tw6252695792229605141:=Prop
def tw714049069090440106:=Prop
def tw12487779173672901959:=Prop
def tw10393078302967963895:=Prop
def tw6205024481829086969:=Prop
def tw9539103307663181003:=Prop
def tw16884622931589843948:=Prop
def tw5015507407206683207:=Prop
def tw8621336744817483243:=Prop
def tw16408362238061914836:=Prop
def tw10412780308102683651:=Prop
def tw14064692534454641163:=Prop
def tw15155859288707382567:=Prop
def tw11347631108264317165:=Prop
def tw5805183375971660199:=Prop
def tw17590088832654516399:=Prop
def tw4842887358765978389:=Prop
def tw14398365135244066966:=Prop
def tw6606014719576569030:=Prop
def tw6999941293234460784:=Prop
def tw10241233070082051121:=Prop
def tw17960406059949683352:=Prop
def tw8249347019533418915:=Prop
def tw3321576952164483024:=Prop
def tw14112606434462084385:=Prop
def tw14593252181223967585:=Prop
def tw1173414789623836638:=Prop
def tw3488647797146898431:=Prop
def tw3903891618737965568:=Prop
def tw12319047049370110589:=Prop
def tw7158441374720773216:=Prop
def tw7834740603555865465:=Prop
def tw133755455108545178:=Prop
def tw16286715671046524454:=Prop
def tw4551872649113716216:=Prop
def tw12514039047250868702:=Prop
def tw6788773261714906821:=Prop
def tw5609530884314319229:=Prop
def tw7945405709010385892:=Prop
def tw12694112234171929671:=Prop
def tw6147076586173037292:=Prop
def tw2484844197603217540:=Prop
def tw7717702957765121957:=Prop
def tw13350131943787299761:=Prop
def tw14731147920152588799:=Prop
def tw11887224372650548316:=Prop
def tw8078195926588453703:=Prop
def tw3822784309164373692:=Prop
def tw5674458297940323589:=Prop
def tw12523711969749109062:=Prop
def tw11269825475406603969:=Prop
def tw5011889884212318148:=Prop
def tw10184835648761350555:=Prop
def tw14245618210516037357:=Prop
def tw6381902497316938245:=Prop
def tw8697654515486363317:=Prop
def tw2456577590951144490:=Prop
def tw12661032092557703082:=Prop
def tw4636031889025220839:=Prop
def tw12737541344736672974:=Prop
def tw16607927582987124570:=Prop
def tw13949155002146243131:=Prop
def tw4589182232624314844:=Prop
def tw16970792351503237766:=Prop
def tw14949513074056673275:=Prop
def tw13708279966662545973:=Prop
def tw1620389302784492585:=Prop
def tw10149639745659574222:=Prop
def tw13323373534744806615:=Prop
def tw17960848765466677729:=Prop
def tw1096354831752916523:=Prop
def tw7910172739516966087:=Prop
def tw17802128708061929859:=Prop
def tw9835382159548102362:=Prop
def tw19751972998642308:=Prop
def tw5185991453625059868:=Prop
def tw14650769484350525481:=Prop
def tw5713610079918043996:=Prop
def tw18042889414512086050:=Prop
def tw1833547357909804662:=Prop
def tw3016012700857477809:=Prop
def tw3942624392001961204:=Prop
def tw12328853128172473661:=Prop
def tw5738919822854818926:=Prop
def tw6728313399510405491:=Prop
def tw2450569374399577549:=Prop
def tw11526203479690249398:=Prop
def tw11654023200298843171:=Prop
def tw16803143847538834185:=Prop
def tw11843833423457600547:=Prop
def tw16504757533647375273:=Prop
end PySem.W.Fast
open PySem PySem.W PyProof.Rows
set_option maxRecDepth 100000
set_option maxHeartbeats 0
open_top head for PySem.Challenge.rw_codemill_k41_whole_nothing_to_fold
theorem PySem.Challenge.cw_codemill_k41_whole_nothing_to_fold_holds : PySem.Challenge.rw_codemill_k41_whole_nothing_to_fold.Holds :=
 head (by
 k_fill
 refine My.walk (l:=PySem.Challenge.rw_codemill_k41_whole_nothing_to_fold) rfl rfl (fun w h Y=>PySem.W.kIn_of Y) ?F
 case F=>
  intro w mg fa h KX G hmg
  refine' My.all_mk KX G hmg ?_ ?_ ?_ ?_ ?_ ?_ ?_ ?_ ?_ ?_ ?_ ?_ ?_ ?_ ?_ ?_ ?_ ?_ ?_ ?_ ?_ ?_ ?_ ?_ ?_ ?_ ?_ ?_ ?_ ?_ ?_ ?_ ?_ ?_ ?_ ?_ ?_ ?_ ?_ ?_ ?_ ?_ ?_ ?_ ?_ ?_ ?_ ?_ ?_ ?_ ?_ ?_ ?_ ?_ ?_ ?_ ?_ ?_ ?_ ?_ ?_ ?_ ?_ ?_ ?_ ?_ ?_ ?_ ?_ ?_ ?_ ?_ ?_ ?_ ?_ ?_ ?_ ?_ ?_ ?_ ?_ ?_ ?_ ?_ ?_ ?_ ?_ ?_ ?_ ?_ ?_ ?_ ?_ ?_ ?_ ?_ ?_ ?_ ?_ ?_ ?_ ?_ ?_ ?_ ?_ ?_ ?_ ?_ ?_ ?_ ?_ ?_ ?_ ?_ ?_ ?_ ?_ ?_ ?_ ?_ ?_ ?_ ?_ ?_ ?_
  any_goals exact My.hdm (by k_is) (by k_is) (by k_is) (by k_is)
  any_goals exact My.cnm (by k_is) (by first | exact rfl | exact ⟨_,rfl⟩)
  any_goals exact My.ktm (by k_is) (by k_is) (by k_keys) (by first | exact rfl | decide) (by repeat (first | exact .nil | refine .cons ⟨⟨_,rfl⟩,(by first | exact rfl | exact ⟨_,rfl⟩)⟩ ?_))
  any_goals exact My.kum (by k_is) (by k_is) rfl rfl (by repeat (first | exact .nil | refine .cons (by first | exact rfl | exact ⟨_,rfl⟩) ?_)) (by decide)
  any_goals k_is
  any_goals first | exact rfl | exact ⟨_,rfl⟩ | k_keys | decide
  any_goals (repeat (first | exact .nil | refine .cons (by first | exact rfl | exact ⟨_,rfl⟩) ?_))
  any_goals k_is
  any_goals exact rfl)
