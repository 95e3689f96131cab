import PyProof.Rows.All
import Wide.All
import OpenK.AllK
import Wide.FinOn
import Lean
import PyProof.EqAt
import PyProof.EqKinds
import PyProof.TupleCall
import PyProof.DictItems
import PySem.Challenge.RW_codemill_k10_whole_runs
local macro_rules | `(tactic| trivial) => `(tactic| (dsimp only; decide +kernel))
local macro_rules | `(tactic| trivial) => `(tactic| decide +kernel)
abbrev ka:=@Bool.false_ne_true
abbrev kb:=@Option.bind_some
abbrev ke:=@Nat.le_refl
abbrev kf:=@List.getElem?_eq_some_iff
abbrev kh:=@decide_eq_false
abbrev ki:=@decide_eq_true
abbrev kj:=@List.length_map
abbrev kl:=@List.length_append
abbrev km:=@PySem.W.mg_of
abbrev ko:=@List.mem_singleton
abbrev kq:=@List.not_mem_nil
abbrev ku:=@Nat.le_trans
abbrev ky:=PySem.W.Frag
abbrev kz:=@if_neg
abbrev kC:=@if_pos
abbrev kD:=@Option.some.inj
abbrev kE:=@of_decide_eq_true
abbrev kF:=@List.mem_cons
abbrev kG:=@List.size_toArray
abbrev kH:=@List.length_singleton
abbrev kI:=@List.mem_of_getElem?
abbrev kJ:=@List.dropLast_concat
abbrev kK:=@List.getLast?_concat
abbrev kL:=@List.map_append
abbrev kM:=@List.getElem?_eq_getElem
abbrev kN:=@Nat.lt_of_lt_of_le
abbrev kO:=@List.mem_append_right
abbrev kP:=@List.mem_append_left
abbrev kQ:=@List.length_cons
abbrev kR:=@List.mem_cons_self
abbrev kS:=@List.mem_cons_of_mem
abbrev kW:=@List.mem_append
abbrev kX:=@List.map_cons
abbrev kY:=@List.append_nil
abbrev kZ:=@List.append_assoc
abbrev ya:=@Nat.le_of_eq
abbrev yb:=@Int.eq_ofNat_of_zero_le
abbrev yc:=@Int.toNat_natCast
abbrev yd:=@Nat.lt_succ_self
abbrev yf:=@Bool.and_eq_true
abbrev yg:=@decide_eq_true_eq
abbrev yh:=@List.mem_map
abbrev yi:=@List.getElem?_append_left
abbrev yj:=@List.getElem?_append_right
set_option genInjectivity true
set_option genSizeOf false
set_option Elab.async false
set_option linter.all false
set_option maxRecDepth 100000
theorem aR (h:True=True:=by rfl) (k:(0:Nat)=0:=by decide):True:=trivial
namespace L2
open PySem PySem.Spec PyProof.Rows
abbrev Key:=Sum Int Str
noncomputable def z0v:Key→Value→Bool
 | .inl k,v=>Value.isInt k v
 | .inr x,v=>Value.isStrOf x v
noncomputable def keyH (w:World):Key→Int
 | .inl k=>hashInt k
 | .inr x=>hashStr w x
theorem qq:∀{k:Key} {v:Value},z0v k v=true→(∃i t,k=Sum.inl i∧v=Value.int i t)∨(∃x t,k=Sum.inr x∧v=Value.str x t)
 | .inl i,v,h=>by
  obtain ⟨t,e⟩:=Value.isInt_shape (k:=i) (v:=v) h
  exact .inl ⟨i,t,rfl,e⟩
 | .inr x,v,h=>by
  obtain ⟨t,e⟩:=Value.isStrOf_shape (x:=x) (v:=v) h
  exact .inr ⟨x,t,rfl,e⟩
theorem z3t (i:Int) (t:Tok):z0v (.inl i) (.int i t)=true:=by simp [z0v,Value.isInt]
theorem z3r (x:Str) (t:Tok):z0v (.inr x) (.str x t)=true:=by simp [z0v,Value.isStrOf]
theorem z8k (a b:Int):decide ((Sum.inl a:Key)=Sum.inl b)=(a == b):=by
 by_cases e:a=b
 ·subst e;simp
 ·have h:¬(Sum.inl a:Key)=Sum.inl b:=fun q=>e (Sum.inl.inj q)
  rw [kh h]
  exact (beq_eq_false_iff_ne.mpr e).symm
theorem z8h (a b:Str):decide ((Sum.inr a:Key)=Sum.inr b)=decide (a=b):=by
 by_cases e:a=b
 ·subst e;simp
 ·have h:¬(Sum.inr a:Key)=Sum.inr b:=fun q=>e (Sum.inr.inj q)
  rw [kh h,kh e]
theorem z8j (a:Int) (b:Str):decide ((Sum.inl a:Key)=Sum.inr b)=false:=kh (fun q=>nomatch q)
theorem z8i (a:Str) (b:Int):decide ((Sum.inr a:Key)=Sum.inl b)=false:=kh (fun q=>nomatch q)
noncomputable def qd (prog:Program) (w:World):PySem.KeyKind prog w Key where
 is:=z0v
 hash:=keyH w
 inj:=fun v a b ha hb=>by
  rcases qq ha with ⟨i,t,rfl,rfl⟩ | ⟨x,t,rfl,rfl⟩
  ·rcases qq hb with ⟨j,u,rfl,e⟩ | ⟨y,u,rfl,e⟩
   ·injection e with e1 _;rw [e1]
   ·exact nomatch e
  ·rcases qq hb with ⟨j,u,rfl,e⟩ | ⟨y,u,rfl,e⟩
   ·exact nomatch e
   ·injection e with e1 _;rw [e1]
 byValue:=fun k v h=>by
  rcases qq h with ⟨i,t,rfl,rfl⟩ | ⟨x,t,rfl,rfl⟩ <;> rfl
 pyHash:=fun hv h=>by
  rcases qq hv with ⟨i,t,rfl,rfl⟩ | ⟨x,t,rfl,rfl⟩
  ·exact wpAny_pyHash_int h
  ·exact wpAny_pyHash_str h
 eqBool:=fun hu hv h=>by
  rcases qq hu with ⟨i,t,rfl,rfl⟩ | ⟨x,t,rfl,rfl⟩
  ·rcases qq hv with ⟨j,u,rfl,rfl⟩ | ⟨y,u,rfl,rfl⟩
   ·rw [z8k] at h;exact wpAny_eqBool_int h
   ·rw [z8j] at h;exact SeqAt.EqAt.int_str i t y u _ _ _ _ h
  ·rcases qq hv with ⟨j,u,rfl,rfl⟩ | ⟨y,u,rfl,rfl⟩
   ·rw [z8i] at h;exact SeqAt.EqAt.str_int x t j u _ _ _ _ h
   ·rw [z8h] at h;exact wpAny_eqBool_str h
 «strs»:=fun k x t v h=>by
  rcases qq h with ⟨i,u,rfl,e⟩ | ⟨y,u,rfl,e⟩
  ·exact nomatch e
  ·injection e with e1 _
   subst e1
   cases v <;> rfl
theorem z1d (prog:Program) (w:World) (i:Int) (t:Tok):(qd prog w).is (.inl i) (.int i t)=true:=z3t i t
theorem z1c (prog:Program) (w:World) (x:Str) (t:Tok):(qd prog w).is (.inr x) (.str x t)=true:=z3r x t
end L2
namespace L2
open PySem PySem.Spec PyProof.Rows
inductive V where
 | non | bl (b:Bool) | int (i:Int) | str (x:Str) | byt (b:Array UInt8) | flt (b:UInt64) | ref (a:Addr) | ty (n:String)
 deriving DecidableEq
def RelV:V→Value→Prop
 | .non,u=>u=Value.none
 | .bl b,u=>u=Value.bool b
 | .int i,u=>∃t,u=Value.int i t
 | .str x,u=>∃t,u=Value.str x t
 | .byt b,u=>∃t,u=Value.bytes b t
 | .flt b,u=>∃t,u=Value.float b t
 | .ref a,u=>u=Value.ref a
 | .ty n,u=>u=Value.type n
abbrev Vals:List V→List Value→Prop:=Paired RelV
theorem Vals.length {xs:List V} {us:List Value} (r:Vals xs us):xs.length=us.length:=Paired.length r
theorem Vals.get:∀{xs:List V} {us:List Value} {i:Nat} {x:V},Vals xs us→xs[i]?=some x→∃u,us[i]?=some u∧RelV x u
 | _,_,_,_,.nil,e=>by simp at e
 | _,_,0,_,.cons r _,e=>by simp at e;subst e;exact ⟨_,rfl,r⟩
 | _,_,i+1,x,.cons _ t,e=>by
  obtain ⟨u,h1,h2⟩:=Vals.get (i:=i) (x:=x) t (by simpa using e)
  exact ⟨u,by simpa using h1,h2⟩
theorem Vals.set {x:V} {u:Value} (r:RelV x u):∀{xs:List V} {us:List Value} (i:Nat),Vals xs us→Vals (xs.set i x) (us.set i u)
 | _,_,_,.nil=>.nil
 | _,_,0,.cons _ t=>.cons r t
 | _,_,i+1,.cons q t=>.cons q (Vals.set r i t)
theorem Vals.append:∀{xs ys:List V} {us ws:List Value},Vals xs us→Vals ys ws→Vals (xs++ys) (us++ws)
 | _,_,_,_,.nil,s=>s
 | _,_,_,_,.cons r t,s=>.cons r (Vals.append t s)
theorem Vals.take:∀{xs:List V} {us:List Value} (n:Nat),Vals xs us→Vals (xs.take n) (us.take n)
 | _,_,0,_=>.nil
 | _,_,_+1,.nil=>.nil
 | _,_,n+1,.cons r t=>.cons r (Vals.take n t)
theorem Vals.drop:∀{xs:List V} {us:List Value} (n:Nat),Vals xs us→Vals (xs.drop n) (us.drop n)
 | _,_,0,r=>r
 | _,_,_+1,.nil=>.nil
 | _,_,n+1,.cons _ t=>Vals.drop n t
def RelO:Option V→Option Value→Prop
 | some v,some u=>RelV v u
 | none,none=>True
 | _,_=>False
def KV {κ:Type}:List (κ × V)→List (κ × Value)→Prop:=Paired fun (p:κ × V) (q:κ × Value)=>p.1=q.1∧RelV p.2 q.2
noncomputable def kV:Key→V
 | .inl i=>.int i
 | .inr x=>.str x
inductive HO where
 | lst (xs:List V)
 | tup (xs:List V)
 | dK (kvs:List (Key × V)) | dT (kvs:List (List Key × V))
 | set (S:Int→Bool) (n:Nat)
 | ins (C dx:Addr) (fs:List (Str × V))
 | own (x:Addr)
 | xd (fs:List (Str × V))
 | met (f x:Addr)
 | rng (lo hi:Int)
 | frz (o:Obj) (u:HO)
 | tbl (ps:Array Value)
 | ext (φ:Heap→Prop)
abbrev Hp:=Addr→Option HO
noncomputable def upd (H:Hp) (a:Addr) (o:HO):Hp:=fun b=>if b=a then some o else H b
theorem zb {H:Hp} {a:Addr} {o:HO}:upd H a o a=some o:=by unfold upd;rw [kC rfl]
theorem zf {H:Hp} {a b:Addr} {o:HO} (h:b≠a):upd H a o b=H b:=by unfold upd;rw [kz h]
theorem z5W {H:Hp} {a:Addr} {o u:HO}:upd (upd H a o) a u=upd H a u:=by
 funext b;unfold upd;split <;> rfl
theorem zC {H:Hp} {a b:Addr} {o u:HO} (h:H a=some o) (h':H b=some u) (d:o≠u):a≠b:=by
 intro e;subst e;rw [h] at h';exact d (kD h')
theorem ze {H:Hp} {a b:Addr} {o:HO} (h:H a=some o) (h':H b=none):a≠b:=by
 intro e;subst e;rw [h] at h';cases h'
section
variable (P:Program) (w:World)
def qL (H:Hp) (h:Heap) (a:Addr):HO→Prop
 | .lst xs=>xs.length≤sizeLine∧∃(its:List Value) (n:Nat),Vals xs its∧h.get? a=some { cls:=.type "list",data:=.seq its.toArray n }
 | .tup xs=>xs.length≤sizeLine∧∃its:List Value,Vals xs its∧IsTup h a its.toArray
 | .dK kvs=>kvs.length≤sizeLine∧(a == sysModules)=false∧∃vs,KV kvs vs∧h.DictOf (qd P w) a vs
 | .dT kvs=>kvs.length≤sizeLine∧(a == sysModules)=false∧∃xs:List (List Key × Addr × Value),
   Paired (fun (p:List Key × V) (q:List Key × Addr × Value)=>p.1=q.1∧H q.2.1=some (.tup (p.1.map kV))∧RelV p.2 q.2.2) kvs xs∧
   ∃o es ep,h.get? a=some o∧o.ExactDict∧o.data=.dict es ep∧es.toList=xs.map (entryOfKey (tupleKind (qd P w)))∧(xs.map (·.1)).Nodup
 | .set S n=>h.SetOf (intKind P w) a S n
 | .ins C dx fs=>H dx=some (.own a)∧fs.length≤1000∧dx≠a∧h.get? a=some (PySem.W.instObj C dx)∧
   ∃mA,h.Ns1 dx mA∧(∀f,RelO (fs.lookup f) (mA f))∧PySem.Within mA (fs.map (·.1))
 | .own _=>∃o,h.get? a=some o
 | .xd fs=>∃mA,h.Ns1 a mA∧∀f,RelO (fs.lookup f) (mA f)
 | .rng lo hi=>∃t u v,h.get? a=some { cls:=.type "range",data:=.fields #[.int lo t,.int hi u,.int 1 v] }
 | .frz o u=>h.get? a=some o∧qL H h a u
 | .tbl ps=>h.get? a=some { cls:=.none,data:=.fields ps }
 | .met f x=>h.get? a=some (PySem.W.methodObj (.ref f) (.ref x))
 | .ext φ=>φ h∧(∃o,h.get? a=some o)∧∀h1 h2:Heap,φ h1→(∀o,h1.get? a=some o→h2.get? a=some o)→φ h2
def HOk (H:Hp) (h:Heap):Prop:=∀a o,H a=some o→qL P w H h a o
end
section
variable {P:Program} {w:World} {H H':Hp} {h h':Heap} {a:Addr} {o:HO}
theorem qL.lt (x:qL P w H h a o):a < h.objs.size:=by
 cases o with
 | lst xs=>obtain ⟨_,_,_,_,e⟩:=x;exact Heap.lt_size e
 | tup xs=>obtain ⟨_,_,_,p⟩:=x;exact p.lt
 | dK kvs=>obtain ⟨_,_,_,_,o,_,_,e,_⟩:=x;exact Heap.lt_size e
 | dT kvs=>obtain ⟨_,_,_,_,o,_,_,e,_⟩:=x;exact Heap.lt_size e
 | set S n=>obtain ⟨o,_,_,_,e,_⟩:=x;exact Heap.lt_size e
 | ins C dx fs=>obtain ⟨_,_,_,e,_⟩:=x;exact Heap.lt_size e
 | own y=>obtain ⟨_,e⟩:=x;exact Heap.lt_size e
 | xd fs=>obtain ⟨_,⟨_,_,_,e,_⟩,_⟩:=x;exact Heap.lt_size e
 | rng lo hi=>obtain ⟨_,_,_,e⟩:=x;exact Heap.lt_size e
 | frz ob u=>obtain ⟨e,_⟩:=x;exact Heap.lt_size e
 | tbl ps=>exact Heap.lt_size (show h.get? a=some _ from x)
 | met f y=>exact Heap.lt_size (show h.get? a=some _ from x)
 | ext φ=>obtain ⟨_,⟨_,e⟩,_⟩:=x;exact Heap.lt_size e
theorem Paired.mapP {α β:Type} {F G:α→β→Prop}:∀{l₁:List α} {l₂:List β},Paired F l₁ l₂→(∀a b,F a b→G a b)→Paired G l₁ l₂
 | _,_,.nil,_=>.nil
 | _,_,.cons r t,f=>.cons (f _ _ r) (Paired.mapP t f)
theorem qL.stay (x:qL P w H h a o) (k:∀b u,(b=a∨H b=some (.own a))→h.get? b=some u→h'.get? b=some u)
  (ho:∀b,H b=some (.own a)→H' b=some (.own a)) (ht:∀b xs,H b=some (.tup xs)→H' b=some (.tup xs)):qL P w H' h' a o:=by
 induction o with
 | lst xs=>obtain ⟨z,its,n,r,e⟩:=x;exact ⟨z,its,n,r,k _ _ (.inl rfl) e⟩
 | tup xs=>obtain ⟨z,its,r,ob,e,c⟩:=x;exact ⟨z,its,r,ob,k _ _ (.inl rfl) e,c⟩
 | dK kvs=>obtain ⟨z,y,vs,r,ob,es,ep,e,c⟩:=x;exact ⟨z,y,vs,r,ob,es,ep,k _ _ (.inl rfl) e,c⟩
 | dT kvs=>
  obtain ⟨z,y,xs,r,ob,es,ep,e,c⟩:=x
  exact ⟨z,y,xs,Paired.mapP r fun p q z=>⟨z.1,ht _ _ z.2.1,z.2.2⟩,ob,es,ep,k _ _ (.inl rfl) e,c⟩
 | set S n=>obtain ⟨ob,es,ep,t,e,c⟩:=x;exact ⟨ob,es,ep,t,k _ _ (.inl rfl) e,c⟩
 | ins C dx fs=>
  obtain ⟨d,z,ne,e,mA,⟨od,es,ep,e2,c⟩,r⟩:=x
  exact ⟨ho _ d,z,ne,k _ _ (.inl rfl) e,mA,⟨od,es,ep,k _ _ (.inr d) e2,c⟩,r⟩
 | own y=>obtain ⟨ob,e⟩:=x;exact ⟨ob,k _ _ (.inl rfl) e⟩
 | xd fs=>obtain ⟨mA,⟨od,es,ep,e,c⟩,r⟩:=x;exact ⟨mA,⟨od,es,ep,k _ _ (.inl rfl) e,c⟩,r⟩
 | rng lo hi=>obtain ⟨t,u,v,e⟩:=x;exact ⟨t,u,v,k _ _ (.inl rfl) e⟩
 | frz ob u ih=>obtain ⟨e,q⟩:=x;exact ⟨k _ _ (.inl rfl) e,ih q⟩
 | tbl ps=>
  have e:h.get? a=some { cls:=.none,data:=.fields ps }:=x
  show h'.get? a=some { cls:=.none,data:=.fields ps }
  exact k a _ (.inl rfl) e
 | met f y=>
  have e:h.get? a=some (PySem.W.methodObj (.ref f) (.ref y)):=x
  show h'.get? a=some (PySem.W.methodObj (.ref f) (.ref y))
  exact k a _ (.inl rfl) e
 | ext φ=>obtain ⟨p,⟨o,e⟩,st⟩:=x;exact ⟨st _ _ p fun o q=>k _ _ (.inl rfl) q,⟨o,k _ _ (.inl rfl) e⟩,st⟩
theorem HOk.lt (x:HOk P w H h) (e:H a=some o):a < h.objs.size:=(x a o e).lt
theorem HOk.fresh (x:HOk P w H h) (e:h.objs.size≤a):H a=none:=by
 cases q:H a with
 | none=>rfl
 | some u=>exact absurd (kN (x.lt q) e) (Nat.lt_irrefl _)
theorem HOk.kept (x:HOk P w H h) (k:∀b u,h.get? b=some u→h'.get? b=some u):HOk P w H h':=fun a o e=>
 (x a o e).stay (fun b u _ q=>k b u q) (fun _ q=>q) fun _ _ q=>q
theorem HOk.laid (x:HOk P w H h) (k:∀b u,h.get? b=some u→h'.get? b=some u) (hp:h.objs.size≤a) (new:qL P w (upd H a o) h' a o):HOk P w (upd H a o) h':=fun b u e=>by
 have hn:=x.fresh hp
 by_cases hb:b=a
 ·subst hb;rw [zb] at e;cases e;exact new
 ·rw [zf hb] at e
  exact (x b u e).stay (fun c v _ q=>k c v q) (fun c q=>by rw [zf (ze q hn)];exact q) fun c xs q=>by rw [zf (ze q hn)];exact q
end
def Rd (H:Hp) (a:Addr) (u:HO):Prop:=H a=some u∨∃o,H a=some (.frz o u)
theorem Rd.of {H:Hp} {a:Addr} {u:HO} (h:H a=some u):Rd H a u:=.inl h
theorem Rd.ok {P:Program} {w:World} {H:Hp} {h:Heap} {a:Addr} {u:HO} (r:Rd H a u) (x:HOk P w H h):qL P w H h a u:=by
 rcases r with r | ⟨o,r⟩
 ·exact x a u r
 ·obtain ⟨_,q⟩:=x a _ r
  exact q
def Mut:Option HO→Prop
 | some (.lst _)=>True
 | some (.dK _)=>True
 | some (.dT _)=>True
 | some (.set _ _)=>True
 | some (.ins _ _ _)=>True
 | some (.ext _)=>True
 | _=>False
section
variable {P:Program} {w:World} {H:Hp} {h h':Heap} {x e:Addr} {o':HO}
theorem HOk.write (ok:HOk P w H h) (mu:Mut (H x)) (he:e=x∨H e=some (.own x)) (k:∀b u,b≠e→h.get? b=some u→h'.get? b=some u) (heo:∃u,h'.get? e=some u)
  (new:qL P w (upd H x o') h' x o'):HOk P w (upd H x o') h':=fun b u q=>by
 have nown:∀c y,H c=some (.own y)→c≠x:=fun c y r z=>by subst z;rw [r] at mu;exact mu
 have ntup:∀c xs,H c=some (.tup xs)→c≠x:=fun c xs r z=>by subst z;rw [r] at mu;exact mu
 by_cases hb:b=x
 ·subst hb;rw [zb] at q;cases q;exact new
 ·rw [zf hb] at q
  by_cases hbe:b=e
  ·have q':H b=some (.own x):=by
    rcases he with z | z
    ·exact absurd (hbe.trans z) hb
    ·rw [hbe];exact z
   rw [q] at q';cases q'
   obtain ⟨v,hv⟩:=heo
   exact ⟨v,by rw [hbe];exact hv⟩
  ·refine (ok b u q).stay (fun c v hc r=>k c v ?_ r) (fun c r=>by rw [zf (nown c b r)];exact r) fun c xs r=>by rw [zf (ntup c xs r)];exact r
   rcases hc with rfl | hc
   ·exact hbe
   ·rintro rfl
    rcases he with z | z
    ·exact nown c b hc z
    ·rw [hc] at z;cases z;exact hb rfl
end
structure Un (fs ex:List Addr) (H H':Hp) (h h':Heap):Prop where
 keep:∀b o,h.get? b=some o→H b=none→b∉fs→b∉ex→h'.get? b=some o
 slot:∀b o,h.get? b=some o→H b=none→b∈fs→b∉ex→∃sl,h'.get? b=some { o with slots:=sl }
 free:∀b o,h.get? b=some o→H b=none→b∉ex→H' b=none
 there:∀b o,h.get? b=some o→b∉ex→∃o',h'.get? b=some o'
 tups:∀b xs,H b=some (.tup xs)→H' b=some (.tup xs)
 frzs:∀b o u,H b=some (.frz o u)→H' b=some (.frz o u)
 tbls:∀b ps,H b=some (.tbl ps)→∃more,H' b=some (.tbl (ps++more))
section
variable {fs fs' ex ex':List Addr} {H H1 H2:Hp} {h h1 h2 h':Heap} {a x e:Addr} {o:HO}
theorem Un.any (u:Un fs ex H H1 h h1) {b:Addr} {ob:Obj} (q:h.get? b=some ob) (n:H b=none) (hx:b∉ex):∃sl,h1.get? b=some { ob with slots:=sl }:=by
 by_cases hb:b∈fs
 ·exact u.slot b ob q n hb hx
 ·exact ⟨ob.slots,u.keep b ob q n hb hx⟩
theorem Un.kept (k:∀b u,h.get? b=some u→h'.get? b=some u):Un fs ex H H h h':=
 ⟨fun b ob q _ _ _=>k b ob q,fun b ob q _ _ _=>⟨ob.slots,k b ob q⟩,fun _ _ _ n _=>n,fun b ob q _=>⟨ob,k b ob q⟩,fun _ _ q=>q,fun _ _ _ q=>q,fun _ ps q=>⟨#[],by rw [q];simp⟩⟩
theorem Un.refl:Un fs ex H H h h:=Un.kept fun _ _ q=>q
theorem Un.laid (k:∀b u,h.get? b=some u→h'.get? b=some u) (hp:h.objs.size≤a) (hn:H a=none):Un fs ex H (upd H a o) h h' where
 keep:=fun b u q _ _ _=>k b u q
 slot:=fun b u q _ _ _=>⟨u.slots,k b u q⟩
 free:=fun b u q n _=>by rw [zf (Nat.ne_of_lt (kN (Heap.lt_size q) hp))];exact n
 there:=fun b u q _=>⟨u,k b u q⟩
 tups:=fun b xs q=>by rw [zf (ze q hn)];exact q
 frzs:=fun b u xs q=>by rw [zf (ze q hn)];exact q
 tbls:=fun b ps q=>⟨#[],by rw [zf (ze q hn),q];simp⟩
theorem Un.write (mu:Mut (H x)) (he:e=x∨H e=some (.own x)) (k:∀b u,b≠e→h.get? b=some u→h'.get? b=some u) (heo:∃u,h'.get? e=some u):Un fs ex H (upd H x o) h h':=by
 have hx:∀b,H b=none→b≠x:=fun b n z=>by subst z;rw [n] at mu;exact mu
 have hb:∀b,H b=none→b≠e:=fun b n z=>by
  subst z
  rcases he with r | r
  ·exact hx b n r
  ·rw [n] at r;cases r
 have hm:∀b u,H b=some u→¬Mut (some u)→b≠x:=fun b u q nm z=>by subst z;rw [q] at mu;exact nm mu
 refine ⟨fun b u q n _ _=>k b u (hb b n) q,fun b u q n _ _=>⟨u.slots,k b u (hb b n) q⟩,fun b u q n _=>by rw [zf (hx b n)];exact n,fun b u q _=>?_,
  fun b xs q=>by rw [zf (hm b _ q fun z=>z)];exact q,fun b u xs q=>by rw [zf (hm b _ q fun z=>z)];exact q,fun b ps q=>⟨#[],by rw [zf (hm b _ q fun z=>z),q];simp⟩⟩
 by_cases hbe:b=e
 ·subst hbe;exact heo
 ·exact ⟨u,k b u hbe q⟩
end
noncomputable def trk (h:Heap) (H:Hp):List Addr:=(List.range h.objs.size).filter fun a=>(H a).isSome
noncomputable def hidT (h:Heap) (H:Hp):Heap:=PySem.W.hideAll h (trk h H)
theorem z3y (h:Heap) (H:Hp):(hidT h H).objs.size=h.objs.size:=PySem.W.hideAll_size _ _
theorem z4H {h:Heap} {H:Hp} {b:Addr} {o:Obj} (e:h.get? b=some o) (n:H b=none):(hidT h H).get? b=some o:=
 PySem.W.hideAll_get _ e fun hm=>by
  have q:(H b).isSome=true:=(List.mem_filter.mp hm).2
  rw [n] at q;simp at q
theorem z6t {h:Heap} {H:Hp} {b:Addr} {o:Obj} (e:(hidT h H).get? b=some o):h.get? b=some o∧H b=none:=by
 have e':h.get? b=some o:=PySem.W.of_hideAll (trk h H) e
 refine ⟨e',?_⟩
 cases q:H b with
 | none=>rfl
 | some x=>
  have hm:b∈trk h H:=List.mem_filter.mpr ⟨List.mem_range.mpr (Heap.lt_size e'),by simp [q]⟩
  have z:(hidT h H).get? b=none:=PySem.W.hideAll_none (trk h H) hm
  rw [z] at e;cases e
end L2
namespace L2
open PySem PySem.Spec PyProof.Rows
structure Mod (K:ky) (mg:Str→Option Value) (base:Heap):Prop where
 kin:K.In base
 glob:base.Ns mainGlobals mg
 blt:∃mb,base.Ns builtinsNs mb∧∀x:Str,x≠"__name__"→mb x=bootBuiltins x
 nolimit:base.NoLimit
structure Cx where
 prog:Program
 w:World
 K:ky
 mg:Str→Option Value
 base:Heap
 A:Around
 N:List Str
 s₀:Shared
 H₀:Hp
 env:Env
 outer:List Env
 stack:List Env
 ex:List Addr
 fn:Str→Bool
 calm:Bool
 pn:List (Addr × Obj)
 xe:Value→Shared→Prop
noncomputable def frs (l:List Env):List Addr:=l.filterMap (·.frame)
noncomputable abbrev Cx.fs (X:Cx):List Addr:=frs X.outer
def Vis (sc:Scope) (x:Str):Prop:=sc.names.lookup x=some .local∨sc.names.lookup x=some .cell∨sc.names.lookup x=some .free
def Loc (sc:Scope) (x:Str):Prop:=sc.names.lookup x=some .local∨sc.names.lookup x=some .cell
def Look (env:Env) (h:Heap) (m:Str→Option Value) (x:Str) (u:Value):Prop:=
 (env.kindOf x=some .local∧m x=some u)∨((env.kindOf x=some .cell∨env.kindOf x=some .free)∧∃c,env.cells.lookup x=some c∧h.IsCell c (some u))
structure Cx.Ok (X:Cx):Prop where
 mod:Mod X.K X.mg X.base
 kind:X.env.scope.kind=.function
 glob:X.env.globals=mainGlobals
 blt:X.env.builtins=builtinsNs
 above:X.s₀.heap.objs.size≤X.env.locals
 inj:∀x y c,X.env.cells.lookup x=some c→X.env.cells.lookup y=some c→x=y
 has:∀x,(X.env.kindOf x=some .cell∨X.env.kindOf x=some .free)→∃c,X.env.cells.lookup x=some c
 cab:∀x c,X.fn x=true→X.env.cells.lookup x=some c→X.s₀.heap.objs.size≤c
 hd:X.calm=true→X.A.handled=none
 frames:X.A.frames=some X.stack
 stk:X.stack=X.outer∨(X.stack=X.env :: X.outer∧X.env.frame=some X.env.locals)
 exf:∀b∈X.ex,b≠X.env.locals∧∀x c,X.env.cells.lookup x=some c→c≠b
 bs:∀b o,X.base.get? b=some o→X.s₀.heap.get? b=some o∧X.H₀ b=none
 bsz:X.base.objs.size≤X.s₀.heap.objs.size
 noex:∀b o,X.base.get? b=some o→b∉X.ex
 exfs:∀b∈X.ex,b∉X.fs
 funs:X.s₀.heap.FunFrames X.base X.outer
 frf:∀b∈X.fs,X.H₀ b=none
structure Inv (X:Cx) (pins:List (Addr × Obj)) (σ:List (Option V)) (H:Hp) (s:Shared):Prop where
 ok:X.Ok
 os:s.os=X.s₀.os
 bare:AllBare s.gens
 base:Un X.fs X.ex X.H₀ H X.s₀.heap s.heap
 loc:∃m,s.heap.Ns X.env.locals m∧∀(i:Nat) (x:Str) (v:V),X.N[i]?=some x→σ[i]?=some (some v)→Vis X.env.scope x→∃u,RelV v u∧Look X.env s.heap m x u
 cell:∀x c,X.env.cells.lookup x=some c→∃v,s.heap.IsCell c v
 free:H X.env.locals=none
 freeC:∀x c,X.env.cells.lookup x=some c→H c=none
 pin:∀p∈X.pn++pins,s.heap.get? p.1=some p.2∧H p.1=none∧p.1≠X.env.locals∧p.1∉X.fs∧∀v,p.2.data≠.cell v
 hok:HOk X.prog X.w H s.heap
 len:σ.length=X.N.length
section
variable {X:Cx} {pins:List (Addr × Obj)} {σ:List (Option V)} {H H':Hp} {s:Shared} {h':Heap}
theorem Cx.Ok.nofr (ok:X.Ok) {b:Addr} {o:Obj} (e:X.base.get? b=some o):b∉X.fs:=fun hb=>by
 have:=(ok.funs.mem hb).1
 rw [e] at this;cases this
theorem Inv.bs (I:Inv X pins σ H s):∀b o,X.base.get? b=some o→s.heap.get? b=some o∧H b=none:=fun b o e=>
 ⟨I.base.keep b o (I.ok.bs b o e).1 (I.ok.bs b o e).2 (I.ok.nofr e) (I.ok.noex b o e),I.base.free b o (I.ok.bs b o e).1 (I.ok.bs b o e).2 (I.ok.noex b o e)⟩
theorem Inv.bk (I:Inv X pins σ H s):∀b o,X.base.get? b=some o→s.heap.get? b=some o:=fun b o e=>(I.bs b o e).1
theorem Inv.mod (I:Inv X pins σ H s):Mod X.K X.mg X.base:=I.ok.mod
theorem Inv.kIn (I:Inv X pins σ H s):X.K.In s.heap:=I.ok.mod.kin.keeps I.bk
theorem Inv.fr (I:Inv X pins σ H s):∃m,Fr X.base X.env.locals s.heap m:=
 let ⟨m,hn,_⟩:=I.loc
 ⟨m,hn,I.bk,ku I.ok.bsz I.ok.above⟩
theorem Inv.lt (I:Inv X pins σ H s):X.env.locals < s.heap.objs.size:=let ⟨_,hn,_⟩:=I.loc;hn.lt
theorem Inv.sz (I:Inv X pins σ H s):X.s₀.heap.objs.size≤s.heap.objs.size:=ku I.ok.above (Nat.le_of_lt I.lt)
theorem Inv.nofs (I:Inv X pins σ H s) {a:Addr} (h:s.heap.objs.size≤a):a∉X.fs:=fun hb=>by
 obtain ⟨_,o,ho,_⟩:=I.ok.funs.mem hb
 exact absurd (kN (Heap.lt_size ho) (ku I.sz h)) (Nat.lt_irrefl _)
theorem Inv.cne (I:Inv X pins σ H s):∀x c,X.env.cells.lookup x=some c→c≠X.env.locals:=fun x c e z=>by
 obtain ⟨v,o,ho,hd⟩:=I.cell x c e
 obtain ⟨m,⟨o',es,ep,ho',hd',_⟩,_⟩:=I.loc
 rw [z,ho'] at ho;cases ho;rw [hd'] at hd;cases hd
theorem Inv.funs (I:Inv X pins σ H s):s.heap.FunFrames X.base X.outer:=by
 have all:∀(l:List Env),(∀b∈frs l,b∈X.fs)→X.s₀.heap.FunFrames X.base l→s.heap.FunFrames X.base l:=by
  intro l
  induction l with
  | nil=>intro _ _;trivial
  | cons env r ih=>
   intro hs hl
   obtain ⟨hk,⟨L,o,hf,hn,ho,hd⟩,hr⟩:=hl
   have hL:L∈X.fs:=hs L (by unfold frs;rw [List.filterMap_cons,hf];exact kR)
   obtain ⟨sl,e⟩:=I.base.slot L o ho (I.ok.frf L hL) hL fun z=>I.ok.exfs L z hL
   exact ⟨hk,⟨L,_,hf,hn,e,hd⟩,ih (fun b hb=>hs b (by unfold frs;rw [List.filterMap_cons,hf];exact kS _ hb)) hr⟩
 exact all X.outer (fun _ hb=>hb) I.ok.funs
theorem Inv.stack (I:Inv X pins σ H s):s.heap.FunFrames X.base X.stack:=by
 rcases I.ok.stk with e | ⟨e,hf⟩
 ·rw [e];exact I.funs
 ·rw [e]
  obtain ⟨m,hn,_⟩:=I.loc
  refine .cons (by rw [I.ok.kind];decide) hf hn ?_ I.funs
  exact Heap.get?_none_of_le (ku I.ok.bsz I.ok.above)
theorem Inv.stkSub (I:Inv X pins σ H s):∀b∈frs X.stack,b∈X.env.locals :: X.fs:=fun b hb=>by
 rcases I.ok.stk with e | ⟨e,hf⟩
 ·rw [e] at hb;exact kS _ hb
 ·rw [e] at hb
  unfold frs at hb
  rw [List.filterMap_cons,hf] at hb
  exact hb
theorem Inv.stkFree (I:Inv X pins σ H s):∀b∈frs X.stack,H b=none:=fun b hb=>by
 rcases kF.mp (I.stkSub b hb) with e | hb
 ·rw [e];exact I.free
 ·obtain ⟨_,o,ho,_⟩:=I.ok.funs.mem hb
  exact I.base.free b o ho (I.ok.frf b hb) fun z=>I.ok.exfs b z hb
theorem Inv.step {g':Array GenState} {t':Nat} {d':Drawn} {ch:List Addr} (I:Inv X pins σ H s)
  (hch:∀b∈ch,(b∈X.ex∨X.s₀.heap.objs.size≤b)∧b≠X.env.locals∧(∀x c,X.env.cells.lookup x=some c→c≠b)∧∀p∈X.pn++pins,p.1≠b)
  (keep:∀b o,b≠X.env.locals→b∉X.fs→b∉ch→s.heap.get? b=some o→H b=none→h'.get? b=some o)
  (slot:∀b o,b≠X.env.locals→b∈X.fs→b∉ch→s.heap.get? b=some o→H b=none→∃sl,h'.get? b=some { o with slots:=sl }) (free:∀b o,b∉ch→s.heap.get? b=some o→H b=none→H' b=none)
  (there:∀b o,b∉ch→s.heap.get? b=some o→∃o',h'.get? b=some o')
  (tups:∀b xs,H b=some (.tup xs)→H' b=some (.tup xs)) (frzs:∀b o u,H b=some (.frz o u)→H' b=some (.frz o u)) (tbls:∀b ps,H b=some (.tbl ps)→∃more,H' b=some (.tbl (ps++more)))
  (ns:∀m,s.heap.Ns X.env.locals m→h'.Ns X.env.locals m) (hok:HOk X.prog X.w H' h') (hg:AllBare g'):
  Inv X pins σ H' { s with heap:=h',gens:=g',drawn:=d',toks:=t' }:=by
 have neL:∀b o,X.s₀.heap.get? b=some o→b≠X.env.locals:=fun b o e=>Nat.ne_of_lt (kN (Heap.lt_size e) I.ok.above)
 have neC:∀b o,X.s₀.heap.get? b=some o→b∉X.ex→b∉ch:=fun b o e hx hb=>by
  rcases (hch b hb).1 with z | z
  ·exact hx z
  ·exact absurd (kN (Heap.lt_size e) z) (Nat.lt_irrefl _)
 have cellK:∀x c,X.env.cells.lookup x=some c→∀v,s.heap.IsCell c v→h'.IsCell c v:=fun x c e v ⟨o,ho,hd⟩=>by
  have nch:c∉ch:=fun z=>(hch c z).2.2.1 x c e rfl
  by_cases hc:c∈X.fs
  ·obtain ⟨sl,q⟩:=slot c o (I.cne x c e) hc nch ho (I.freeC x c e)
   exact ⟨_,q,hd⟩
  ·exact ⟨o,keep c o (I.cne x c e) hc nch ho (I.freeC x c e),hd⟩
 refine ⟨I.ok,I.os,hg,⟨fun b o e n hb hx=>?_,fun b o e n hb hx=>?_,fun b o e n hx=>?_,fun b o e hx=>?_,fun b xs e=>tups b xs (I.base.tups b xs e),fun b o xs e=>frzs b o xs (I.base.frzs b o xs e),fun b ps e=>?_⟩,?_,fun x c e=>?_,?_,fun x c e=>?_,fun p hp=>?_,hok,I.len⟩
 ·exact keep b o (neL b o e) hb (neC b o e hx) (I.base.keep b o e n hb hx) (I.base.free b o e n hx)
 ·obtain ⟨sl,e1⟩:=I.base.slot b o e n hb hx
  obtain ⟨sl',e2⟩:=slot b _ (neL b o e) hb (neC b o e hx) e1 (I.base.free b o e n hx)
  exact ⟨sl',e2⟩
 ·obtain ⟨o',e1⟩:=I.base.there b o e hx
  exact free b o' (neC b o e hx) e1 (I.base.free b o e n hx)
 ·obtain ⟨o',e1⟩:=I.base.there b o e hx
  exact there b o' (neC b o e hx) e1
 ·obtain ⟨m1,e1⟩:=I.base.tbls b ps e
  obtain ⟨m2,e2⟩:=tbls b _ e1
  exact ⟨m1++m2,by rw [e2,Array.append_assoc]⟩
 ·obtain ⟨m,hn,hl⟩:=I.loc
  refine ⟨m,ns m hn,fun i x v e1 e2 e3=>?_⟩
  obtain ⟨u,r,l⟩:=hl i x v e1 e2 e3
  refine ⟨u,r,?_⟩
  rcases l with l | ⟨k,c,e,z⟩
  ·exact .inl l
  ·exact .inr ⟨k,c,e,cellK x c e _ z⟩
 ·obtain ⟨v,z⟩:=I.cell x c e
  exact ⟨v,cellK x c e v z⟩
 ·obtain ⟨m,⟨o,_,_,ho,_⟩,_⟩:=I.loc
  exact free _ o (fun z=>(hch _ z).2.1 rfl) ho I.free
 ·obtain ⟨v,o,ho,hd⟩:=I.cell x c e
  exact free c o (fun z=>(hch c z).2.2.1 x c e rfl) ho (I.freeC x c e)
 ·obtain ⟨e,n,ne,nf,d⟩:=I.pin p hp
  have nch:p.1∉ch:=fun z=>(hch p.1 z).2.2.2 p hp rfl
  exact ⟨keep p.1 p.2 ne nf nch e n,free p.1 p.2 nch e n,ne,nf,d⟩
theorem Inv.un {t':Nat} (I:Inv X pins σ H s) (u:Un X.fs [] H H' s.heap h') (hok:HOk X.prog X.w H' h'):Inv X pins σ H' { s with heap:=h',toks:=t' }:=by
 obtain ⟨m,⟨o,es,ep,ho,r⟩,_⟩:=id I.loc
 obtain ⟨sl,hL⟩:=u.any ho I.free (by simp)
 exact I.step (g':=s.gens) (d':=s.drawn) (ch:=[]) (fun _ z=>nomatch z) (fun b o _ hb _ e n=>u.keep b o e n hb (by simp)) (fun b o _ hb _ e n=>u.slot b o e n hb (by simp)) (fun b o _ e n=>u.free b o e n (by simp)) (fun b o _ e=>u.there b o e (by simp)) u.tups u.frzs u.tbls (fun m' hm=>by
  obtain ⟨o',es',ep',ho',r'⟩:=hm
  rw [ho] at ho';cases ho'
  exact ⟨_,es',ep',hL,r'⟩) hok I.bare
theorem Inv.call {g':Array GenState} {t':Nat} {d':Drawn} {ch:List Addr} (I:Inv X pins σ H s) (u:Un (frs X.stack) ch H H' s.heap h') (hok:HOk X.prog X.w H' h') (hg:AllBare g')
  (hch:∀b∈ch,(b∈X.ex∨X.s₀.heap.objs.size≤b)∧b≠X.env.locals∧(∀x c,X.env.cells.lookup x=some c→c≠b)∧∀p∈X.pn++pins,p.1≠b):
  Inv X pins σ H' { s with heap:=h',gens:=g',drawn:=d',toks:=t' }:=by
 obtain ⟨m,⟨o,es,ep,ho,r⟩,_⟩:=id I.loc
 obtain ⟨sl,hL⟩:=u.any ho I.free fun z=>(hch _ z).2.1 rfl
 exact I.step (ch:=ch) hch (fun b o hL hb hc e n=>u.keep b o e n (fun z=>(kF.mp (I.stkSub b z)).elim hL hb) hc) (fun b o _ _ hc e n=>u.any e n hc) (fun b o hc e n=>u.free b o e n hc) (fun b o hc e=>u.there b o e hc) u.tups u.frzs u.tbls (fun m' hm=>by
  obtain ⟨o',es',ep',ho',r'⟩:=hm
  rw [ho] at ho';cases ho'
  exact ⟨_,es',ep',hL,r'⟩) hok hg
theorem Inv.turned {t':Nat} {it:Addr} (I:Inv X pins σ H s) (k:∀b o,b≠it→s.heap.get? b=some o→h'.get? b=some o) (hn:H it=none) (hL:it≠X.env.locals)
  (h1:it∈X.ex∨X.s₀.heap.objs.size≤it) (h2:∀x c,X.env.cells.lookup x=some c→c≠it) (h3:∀p∈X.pn++pins,p.1≠it):Inv X pins σ H { s with heap:=h',toks:=t' }:=by
 have nit:∀b u,H b=some u→b≠it:=fun b u e z=>by rw [z,hn] at e;cases e
 refine I.step (g':=s.gens) (d':=s.drawn) (ch:=[it]) (fun b hb=>?_) (fun b o _ _ hc e _=>k b o (fun z=>hc (by simp [z])) e) (fun b o _ _ hc e _=>⟨o.slots,k b o (fun z=>hc (by simp [z])) e⟩) (fun _ _ _ _ n=>n)
  (fun b o hc e=>⟨o,k b o (fun z=>hc (by simp [z])) e⟩) (fun _ _ e=>e) (fun _ _ _ e=>e) (fun b ps e=>⟨#[],by rw [e];simp⟩) (fun m hm=>?_) (fun b u e=>?_) I.bare
 ·have e:b=it:=by simpa using hb
  subst e
  exact ⟨h1,hL,h2,h3⟩
 ·obtain ⟨o,es,ep,ho,r⟩:=hm
  exact ⟨o,es,ep,k _ o (Ne.symm hL) ho,r⟩
 ·refine (I.hok b u e).stay (fun c v hc q=>k c v ?_ q) (fun _ q=>q) fun _ _ q=>q
  rcases hc with z | z
  ·rw [z];exact nit b u e
  ·exact nit c _ z
theorem Inv.tok (I:Inv X pins σ H s) (t:Nat):Inv X pins σ H { s with toks:=t }:=I.un (h':=s.heap) (t':=t) Un.refl I.hok
theorem Inv.kept {t':Nat} (I:Inv X pins σ H s) (k:∀b u,s.heap.get? b=some u→h'.get? b=some u):Inv X pins σ H { s with heap:=h',toks:=t' }:=I.un (Un.kept k) (I.hok.kept k)
theorem Inv.laid {a:Addr} {o:HO} {t':Nat} (I:Inv X pins σ H s) (k:∀b u,s.heap.get? b=some u→h'.get? b=some u) (hp:s.heap.objs.size≤a) (new:qL X.prog X.w (upd H a o) h' a o):
  Inv X pins σ (upd H a o) { s with heap:=h',toks:=t' }:=I.un (Un.laid k hp (I.hok.fresh hp)) (I.hok.laid k hp new)
theorem Inv.write {x e:Addr} {o:HO} {t':Nat} (I:Inv X pins σ H s) (mu:Mut (H x)) (he:e=x∨H e=some (.own x)) (k:∀b u,b≠e→s.heap.get? b=some u→h'.get? b=some u) (heo:∃u,h'.get? e=some u)
  (new:qL X.prog X.w (upd H x o) h' x o):Inv X pins σ (upd H x o) { s with heap:=h',toks:=t' }:=I.un (Un.write mu he k heo) (I.hok.write mu he k heo new)
theorem Inv.pins_of {pins':List (Addr × Obj)} (I:Inv X pins σ H s) (h:∀p∈pins',s.heap.get? p.1=some p.2∧H p.1=none∧p.1≠X.env.locals∧p.1∉X.fs∧∀v,p.2.data≠.cell v):Inv X pins' σ H s:=
 ⟨I.ok,I.os,I.bare,I.base,I.loc,I.cell,I.free,I.freeC,fun p hp=>(kW.mp hp).elim (fun z=>I.pin p (kP _ z)) (h p),I.hok,I.len⟩
theorem z1N {N:List Str} (hN:N.Nodup) {i j:Nat} {x:Str} (a:N[i]?=some x) (b:N[j]?=some x):i=j:=by
 obtain ⟨h1,e1⟩:=kf.mp a
 obtain ⟨h2,e2⟩:=kf.mp b
 exact (List.getElem_inj hN).mp (e1.trans e2.symm)
theorem z09 {M:Model} {A:Around} {E:Value→Shared→Prop} {i:Nat} {x:Str} {v:V} {u:Value} {Q:Unit→Shared→Prop} (I:Inv X pins σ H s) (hN:X.N.Nodup) (hi:X.N[i]?=some x) (hx:Loc X.env.scope x) (r:RelV v u)
  (h:∀s',Inv X pins (σ.set i (some v)) H s'→(∃a,Heap.SameBut a s.heap s'.heap∧(a=X.env.locals∨X.env.cells.lookup x=some a))→Q () s') (hf:X.fn x=true∨X.env.scope.names.lookup x=some .local:=by first | exact .inl rfl | exact .inr rfl | assumption):wpAny M A (storeName X.env x u) Q E s:=by
 obtain ⟨m,hn,hl⟩:=id I.loc
 have hcls:(X.env.scope.kind == .class||(X.env.scope.kind == .module&&X.env.locals != X.env.globals))=false:=by rw [I.ok.kind];rfl
 have hiσ:i < σ.length:=by rw [I.len];exact (kf.mp hi).1
 have cne:=I.cne
 have tracked:∀{a:Addr} {h':Heap},(∃o,s.heap.get? a=some o∧H a=none)→Heap.SameBut a s.heap h'→HOk X.prog X.w H h':=fun {a h'} ha hs b ob e=>by
  obtain ⟨_,_,hfree⟩:=ha
  refine (I.hok b ob e).stay (fun c w' hc q=>(hs.2 c ?_).trans q) (fun _ q=>q) fun _ _ q=>q
  rintro rfl
  rcases hc with rfl | hc
  ·rw [hfree] at e;cases e
  ·rw [hfree] at hc;cases hc
 rcases hx with hk | hk
 ·refine wpAny_storeName_local hk hn (fun h' hn' hs=>?_) hcls
  obtain ⟨oL,_,_,hoL,_⟩:=id hn
  refine h _ ⟨I.ok,I.os,I.bare,⟨fun b o e n hb hx=>?_,fun b o e n hb hx=>?_,I.base.free,fun b o e hx=>?_,I.base.tups,I.base.frzs,I.base.tbls⟩,⟨_,hn',fun j y v' e1 e2 e3=>?_⟩,fun y c e=>?_,I.free,I.freeC,fun p hp=>?_,tracked ⟨oL,hoL,I.free⟩ hs,by simpa using I.len⟩ ⟨_,hs,.inl rfl⟩
  ·exact (hs.2 b (Nat.ne_of_lt (kN (Heap.lt_size e) I.ok.above))).trans (I.base.keep b o e n hb hx)
  ·obtain ⟨sl,e1⟩:=I.base.slot b o e n hb hx
   exact ⟨sl,(hs.2 b (Nat.ne_of_lt (kN (Heap.lt_size e) I.ok.above))).trans e1⟩
  ·obtain ⟨o',e1⟩:=I.base.there b o e hx
   exact ⟨o',(hs.2 b (Nat.ne_of_lt (kN (Heap.lt_size e) I.ok.above))).trans e1⟩
  ·by_cases hj:j=i
   ·subst hj
    rw [hi] at e1;cases e1
    rw [List.getElem?_set_self hiσ] at e2
    cases e2
    exact ⟨u,r,.inl ⟨hk,by simp⟩⟩
   ·rw [List.getElem?_set_ne (Ne.symm hj)] at e2
    obtain ⟨u',r',q⟩:=hl j y v' e1 e2 e3
    refine ⟨u',r',?_⟩
    rcases q with ⟨k,e⟩ | ⟨k,c,e,z⟩
    ·refine .inl ⟨k,?_⟩
     have:y≠x:=fun e=>hj (z1N hN e1 (e▸hi))
     simp [this,e]
    ·exact .inr ⟨k,c,e,z.sameBut hs (cne y c e)⟩
  ·obtain ⟨w',z⟩:=I.cell y c e
   exact ⟨w',z.sameBut hs (cne y c e)⟩
  ·obtain ⟨e,n,ne,nf,d⟩:=I.pin p hp
   exact ⟨(hs.2 p.1 ne).trans e,n,ne,nf,d⟩
 ·have hfn:X.fn x=true:=by
   rcases hf with z | z
   ·exact z
   ·rw [z] at hk;cases hk
  obtain ⟨c,hc⟩:=I.ok.has x (.inl hk)
  obtain ⟨w',z⟩:=I.cell x c hc
  refine wpAny_storeName_cell I.ok.kind hk hc z (fun h' hc' hs=>?_)
  obtain ⟨oc,hoc,hocd⟩:=id z
  refine h { s with heap:=h' } ⟨I.ok,I.os,I.bare,⟨fun b o e n hb hx=>?_,fun b o e n hb hx=>?_,I.base.free,fun b o e hx=>?_,I.base.tups,I.base.frzs,I.base.tbls⟩,⟨m,hn.sameBut hs (Ne.symm (cne x c hc)),fun j y v' e1 e2 e3=>?_⟩,fun y c' e=>?_,I.free,I.freeC,fun p hp=>?_,tracked ⟨oc,hoc,I.freeC x c hc⟩ hs,by simpa using I.len⟩ ⟨c,hs,.inr hc⟩
  ·exact (hs.2 b (Nat.ne_of_lt (kN (Heap.lt_size e) (I.ok.cab x c hfn hc)))).trans (I.base.keep b o e n hb hx)
  ·obtain ⟨sl,e1⟩:=I.base.slot b o e n hb hx
   exact ⟨sl,(hs.2 b (Nat.ne_of_lt (kN (Heap.lt_size e) (I.ok.cab x c hfn hc)))).trans e1⟩
  ·obtain ⟨o',e1⟩:=I.base.there b o e hx
   exact ⟨o',(hs.2 b (Nat.ne_of_lt (kN (Heap.lt_size e) (I.ok.cab x c hfn hc)))).trans e1⟩
  ·by_cases hj:j=i
   ·subst hj
    rw [hi] at e1;cases e1
    rw [List.getElem?_set_self hiσ] at e2
    cases e2
    exact ⟨u,r,.inr ⟨.inl hk,c,hc,hc'⟩⟩
   ·rw [List.getElem?_set_ne (Ne.symm hj)] at e2
    obtain ⟨u',r',q⟩:=hl j y v' e1 e2 e3
    refine ⟨u',r',?_⟩
    rcases q with q | ⟨k,c',e,z'⟩
    ·exact .inl q
    ·refine .inr ⟨k,c',e,z'.sameBut hs ?_⟩
     rintro rfl
     exact hj (z1N hN e1 (I.ok.inj _ _ _ e hc▸hi))
  ·by_cases hcc:c'=c
   ·subst hcc;exact ⟨_,hc'⟩
   ·obtain ⟨w2,z2⟩:=I.cell y c' e
    exact ⟨w2,z2.sameBut hs hcc⟩
  ·obtain ⟨e,n,ne,nf,d⟩:=I.pin p hp
   refine ⟨(hs.2 p.1 ?_).trans e,n,ne,nf,d⟩
   intro q
   rw [q,hoc] at e
   have q':oc=p.2:=kD e
   exact d w' (by rw [←q'];exact hocd)
theorem ZA {M:Model} {A:Around} {E:Value→Shared→Prop} {i:Nat} {x:Str} {v:V} {u:Value} {Q:Unit→Shared→Prop} (I:Inv X pins σ H s) (hN:X.N.Nodup) (hi:X.N[i]?=some x) (hx:Loc X.env.scope x) (r:RelV v u)
  (h:∀s',Inv X pins (σ.set i (some v)) H s'→Q () s') (hf:X.fn x=true∨X.env.scope.names.lookup x=some .local:=by first | exact .inl rfl | exact .inr rfl | assumption):wpAny M A (storeName X.env x u) Q E s:=
 z09 I hN hi hx r (fun s' I' _=>h s' I') hf
theorem Inv.call' {s':Shared} {ch:List Addr} (I:Inv X pins σ H s) (ho:s'.os=s.os) (u:Un (frs X.stack) ch H H' s.heap s'.heap) (hok:HOk X.prog X.w H' s'.heap) (hg:AllBare s'.gens)
  (hch:∀b∈ch,(b∈X.ex∨X.s₀.heap.objs.size≤b)∧b≠X.env.locals∧(∀x c,X.env.cells.lookup x=some c→c≠b)∧∀p∈X.pn++pins,p.1≠b):Inv X pins σ H' s':=by
 obtain ⟨h',g',d',t',o'⟩:=s'
 have e:o'=s.os:=ho
 subst e
 exact I.call (g':=g') (t':=t') (d':=d') u hok hg hch
end
abbrev XK:=Value→Option Addr→Hp→Prop
abbrev St:=List (Option V)
abbrev VK:=V→Hp→Prop
abbrev TE:=St→Hp→VK→Prop
abbrev TT:=St→Hp→(Bool→Hp→Prop)→Prop
abbrev TA:=St→Hp→(List V→Hp→Prop)→Prop
structure Ends where
 nx:St→Hp→Prop
 rt:VK
 bk:St→Hp→Prop:=fun _ _=>False
 ct:St→Hp→Prop:=fun _ _=>False
abbrev TS:=Ends→St→Hp→Prop
def EP (X:Cx) (pins:List (Addr × Obj)) (σ:St) (Q:VK) (u:Value) (s':Shared):Prop:=∃v H',Inv X pins σ H' s'∧RelV v u∧Q v H'
def TP (X:Cx) (pins:List (Addr × Obj)) (σ:St) (Q:Bool→Hp→Prop) (b:Bool) (s':Shared):Prop:=∃H',Inv X pins σ H' s'∧Q b H'
def AP (X:Cx) (pins:List (Addr × Obj)) (σ:St) (Q:List V→Hp→Prop) (us:List Value) (s':Shared):Prop:=∃vs H',Inv X pins σ H' s'∧Vals vs us∧Q vs H'
def SP (X:Cx) (pins:List (Addr × Obj)) (D:Ends) (f:Flow) (s':Shared):Prop:=
 match f with
 | .next=>∃σ' H',Inv X pins σ' H' s'∧D.nx σ' H'
 | .brk=>∃σ' H',Inv X pins σ' H' s'∧D.bk σ' H'
 | .cont=>∃σ' H',Inv X pins σ' H' s'∧D.ct σ' H'
 | .ret u=>∃v σ' H',Inv X pins σ' H' s'∧RelV v u∧D.rt v H'
def PE (X:Cx) (e:Expr) (t:TE):Prop:=
 ∀(pins:List (Addr × Obj)) (s:Shared) (σ:St) (H:Hp) (Q:VK),Inv X pins σ H s→t σ H Q→wpAny (model X.prog X.w) X.A (eval e X.env) (EP X pins σ Q) X.xe s
def PT (X:Cx) (e:Expr) (t:TT):Prop:=
 ∀(pins:List (Addr × Obj)) (s:Shared) (σ:St) (H:Hp) (Q:Bool→Hp→Prop),Inv X pins σ H s→t σ H Q→wpAny (model X.prog X.w) X.A (isTrue e X.env (eval e X.env)) (TP X pins σ Q) X.xe s
def PW (X:Cx) (e:Expr) (t:TT):Prop:=
 ∀(whole:Sem Value) (pins:List (Addr × Obj)) (s:Shared) (σ:St) (H:Hp) (Q:Bool→Hp→Prop),Inv X pins σ H s→t σ H Q→wpAny (model X.prog X.w) X.A (isTrue e X.env whole) (TP X pins σ Q) X.xe s
theorem PW.pt {X:Cx} {e:Expr} {t:TT} (h:PW X e t):PT X e t:=h _
def PA (X:Cx) (es:List Expr) (t:TA):Prop:=
 ∀(pos:Pos) (pins:List (Addr × Obj)) (s:Shared) (σ:St) (H:Hp) (Q:List V→Hp→Prop),Inv X pins σ H s→t σ H Q→wpAny (model X.prog X.w) X.A (spliced (backTo pos (starEach es X.env))) (AP X pins σ Q) X.xe s
def PS (X:Cx) (st:Stmt) (t:TS):Prop:=
 ∀(pins:List (Addr × Obj)) (s:Shared) (σ:St) (H:Hp) (D:Ends),Inv X pins σ H s→t D σ H→wpAny (model X.prog X.w) X.A (exec st X.env) (SP X pins D) X.xe s
def PSs (X:Cx) (st:List Stmt) (t:TS):Prop:=
 ∀(pins:List (Addr × Obj)) (s:Shared) (σ:St) (H:Hp) (D:Ends),Inv X pins σ H s→t D σ H→wpAny (model X.prog X.w) X.A (execs st X.env) (SP X pins D) X.xe s
theorem thn {α:Type} {t:Sem α} {Q Q':α→Shared→Prop} {M:Model} {A:Around} {E:Value→Shared→Prop} {s:Shared} (h:wpAny M A t Q E s) (hQ:∀a s,Q a s→Q' a s):wpAny M A t Q' E s:=wpAny_mono h hQ fun _ _ x=>x
end L2
namespace L2
open PySem PySem.Spec PyProof.Rows
section
variable {X:Cx}
def tVar (i:Nat):TE:=fun σ H Q=>∃v,σ[i]?=some (some v)∧Q v H
abbrev tC (v:V):TE:=fun _ H Q=>Q v H
theorem z7Y {i:Nat} {x:Str} {pos:Pos} (hN:X.N[i]?=some x) (hv:Vis X.env.scope x) (hd:autoParam ((x == ("__debug__":Str))=false) aR._auto_2) (hcd:autoParam ((x == ("__classdict__":Str))=false) aR._auto_2):PE X (.Name x pos) (tVar i):=by
 intro pins s σ H Q I h
 obtain ⟨v,e,h⟩:=h
 obtain ⟨m,hn,hl⟩:=I.loc
 obtain ⟨u,r,l⟩:=hl i x v hN e hv
 have fin:EP X pins σ Q u s:=⟨v,H,I,r,h⟩
 rcases l with ⟨hk,hm⟩ | ⟨hk,c,hc,hcell⟩
 ·exact wpAny_Name (wpAny_loadName_local I.ok.kind hk hn hm fin) hd
 ·rcases hk with hk | hk
  ·exact wpAny_Name (wpAny_loadName_cell I.ok.kind hk hc hcell fin) hd
  ·exact wpAny_Name (wpAny_loadName_free I.ok.kind hk hc hcell fin hcd) hd
theorem zg {i j pos}:PE X (.Constant (.int i) j pos) (tC (.int i)):=fun _ _ _ H _ I h=>wpAny_Constant_int ⟨.int i,H,I.tok _,⟨_,rfl⟩,h⟩
theorem JC {b j pos}:PE X (.Constant (.bool b) j pos) (tC (.bl b)):=fun _ _ _ H _ I h=>Constant_bool ⟨.bl b,H,I,rfl,h⟩
theorem qc {j pos}:PE X (.Constant .none j pos) (tC .non):=fun _ _ _ H _ I h=>Constant_none ⟨.non,H,I,rfl,h⟩
theorem zi {x j pos}:PE X (.Constant (.str x) j pos) (tC (.str x)):=fun _ _ _ H _ I h=>Calls.Constant_str ⟨.str x,H,I.tok _,⟨_,rfl⟩,h⟩
def Gl (X:Cx) (x:Str):Prop:=X.env.kindOf x=some .globalImplicit
theorem Q7 {E:Value→Shared→Prop} {pins:List (Addr × Obj)} {s:Shared} {σ:St} {H:Hp} {x:Str} {u:Value} {pos:Pos} {Q:Value→Shared→Prop} (I:Inv X pins σ H s) (hg:Gl X x) (hm:X.mg x=some u) (h:Q u s)
  (hd:autoParam ((x == ("__debug__":Str))=false) aR._auto_2):wpAny (model X.prog X.w) X.A (eval (.Name x pos) X.env) Q E s:=
 Calls.Name_function_global I.ok.kind hg (Calls.loadGlobal_global (by rw [I.ok.glob];exact I.mod.glob.keeps I.bk) hm h) hd
theorem z0s {E:Value→Shared→Prop} {pins:List (Addr × Obj)} {s:Shared} {σ:St} {H:Hp} {x:Str} {u:Value} {pos:Pos} {Q:Value→Shared→Prop} (I:Inv X pins σ H s) (hg:Gl X x) (hm:X.mg x=none) (hv:bootBuiltins x=some u) (h:Q u s)
  (hn:autoParam (x≠"__name__") aR._auto_2) (hd:autoParam ((x == ("__debug__":Str))=false) aR._auto_2):wpAny (model X.prog X.w) X.A (eval (.Name x pos) X.env) Q E s:=by
 obtain ⟨mb,h1,h2⟩:=I.mod.blt
 exact Calls.Name_function_global I.ok.kind hg (Calls.loadGlobal_builtin (by rw [I.ok.glob];exact I.mod.glob.keeps I.bk) hm (by rw [I.ok.blt];exact h1.keeps I.bk) ((h2 x hn).trans hv) h) hd
theorem qh {x:Str} {v:V} {u:Value} {pos:Pos} (hg:Gl X x) (hm:X.mg x=some u) (r:RelV v u) (hd:autoParam ((x == ("__debug__":Str))=false) aR._auto_2):PE X (.Name x pos) (tC v):=
 fun _ _ _ H _ I h=>Q7 I hg hm ⟨v,H,I,r,h⟩ hd
theorem z6p {x:Str} {v:V} {u:Value} {pos:Pos} (hg:Gl X x) (hm:X.mg x=none) (hv:bootBuiltins x=some u) (r:RelV v u) (hn:autoParam (x≠"__name__") aR._auto_2) (hd:autoParam ((x == ("__debug__":Str))=false) aR._auto_2):PE X (.Name x pos) (tC v):=
 fun _ _ _ H _ I h=>z0s I hg hm hv ⟨v,H,I,r,h⟩ hn hd
variable {a b:Expr} {ta tb:TE} {pos:Pos}
def PC (X:Cx) (op:CmpOp) (a b:Expr) (t:TE):Prop:=
 ∀(pins:List (Addr × Obj)) (s:Shared) (σ:St) (H:Hp) (Q:VK),Inv X pins σ H s→t σ H Q→
  wpAny (model X.prog X.w) X.A (eval a X.env) (fun v s₁=>wpAny (model X.prog X.w) X.A (eval b X.env) (fun u s₂=>wpAny (model X.prog X.w) X.A (compareOp op v u) (EP X pins σ Q) X.xe s₂) X.xe s₁) X.xe s
def tB (t:TE):TT:=fun σ H Q=>t σ H fun x H1=>∃c,x=.bl c∧Q c H1
theorem z5J {op:CmpOp} {t:TE} (h:PC X op a b t) (h1:behindInMarks op b=false:=by first | exact nobehind _ (by decide) (by decide) | rfl):PE X (.Compare a [op] [b] pos) t:=fun pins s σ H Q I hw=>wpAny_Compare1 (h pins s σ H Q I hw) h1
theorem z1B {op:CmpOp} {t:TE} (h:PC X op a b t) (h1:behindInMarks op b=false:=by first | exact nobehind _ (by decide) (by decide) | rfl):PT X (.Compare a [op] [b] pos) (tB t):=by
 intro pins s σ H Q I hw
 refine wpAny_isTrue_Compare1 (thn (h pins s σ H _ I hw) fun v s1 h1=>thn h1 fun u s2 h2=>thn h2 fun c s3 ⟨x,H1,I1,r1,q1⟩=>?_) h1
 obtain ⟨d,rfl,q⟩:=q1
 cases r1
 exact wpAny_truthy_bool ⟨H1,I1,q⟩
theorem qK {e:Expr} {t:TE} (h:PE X e t) (he:∀whole,isTrue e X.env whole=(do let v ←whole;standAt e.pos;holding [v] (truthy v)):=by intro _;rfl):PT X e (tB t):=by
 intro pins s σ H Q I hw
 refine isTrue_plain (thn (h pins s σ H _ I hw) fun v s1 ⟨x,H1,I1,r1,q1⟩=>?_) (he _)
 obtain ⟨d,rfl,q⟩:=q1
 cases r1
 exact wpAny_truthy_bool ⟨H1,I1,q⟩
variable {tA tB':TT} {rest:List Expr}
def tAnd (t u:TT):TT:=fun σ H Q=>t σ H fun c H1=>if c=true then u σ H1 Q else Q false H1
def tOr (t u:TT):TT:=fun σ H Q=>t σ H fun c H1=>if c=true then Q true H1 else u σ H1 Q
def tNot (t:TT):TT:=fun σ H Q=>t σ H fun c H1=>Q (!c) H1
theorem Q3 (ha:PT X a tA):PW X (.BoolOp .And [a] pos) tA:=by
 intro wh pins s σ H Q I h
 refine isTrue_and (thn (ha pins s σ H Q I h) fun c s1 e=>?_)
 cases c with
 | true=>exact isTrue_and_nil e
 | false=>exact e
theorem Zj (ha:PT X a tA):PW X (.BoolOp .Or [a] pos) tA:=by
 intro wh pins s σ H Q I h
 refine isTrue_or (thn (ha pins s σ H Q I h) fun c s1 e=>?_)
 cases c with
 | false=>exact isTrue_or_nil e
 | true=>exact e
theorem J8 (ha:PT X a tA) (hb:PW X (.BoolOp .And (b :: rest) pos) tB'):PW X (.BoolOp .And (a :: b :: rest) pos) (tAnd tA tB'):=by
 intro wh pins s σ H Q I h
 refine isTrue_and (thn (ha pins s σ H _ I h) fun c s1 zz=>?_)
 obtain ⟨H1,I1,q1⟩:=zz
 cases c with
 | true=>exact hb wh pins s1 σ H1 Q I1 q1
 | false=>exact ⟨H1,I1,q1⟩
theorem Qz (ha:PT X a tA) (hb:PW X (.BoolOp .Or (b :: rest) pos) tB'):PW X (.BoolOp .Or (a :: b :: rest) pos) (tOr tA tB'):=by
 intro wh pins s σ H Q I h
 refine isTrue_or (thn (ha pins s σ H _ I h) fun c s1 zz=>?_)
 obtain ⟨H1,I1,q1⟩:=zz
 cases c with
 | true=>exact ⟨H1,I1,q1⟩
 | false=>exact hb wh pins s1 σ H1 Q I1 q1
theorem jy (ha:PT X a tA):PT X (.UnaryOp .Not a pos) (tNot tA):=by
 intro pins s σ H Q I h
 exact isTrue_not (ha pins s σ H (fun c H1=>Q (!c) H1) I h)
def z96 (ta tb:TE):TE:=fun σ H Q=>ta σ H fun x H1=>∃c,x=.bl c∧if c=true then tb σ H1 Q else Q (.bl false) H1
def tOrV (ta tb:TE):TE:=fun σ H Q=>ta σ H fun x H1=>∃c,x=.bl c∧if c=true then Q (.bl true) H1 else tb σ H1 Q
def z91 (ta:TE):TE:=fun σ H Q=>ta σ H fun x H1=>∃c,x=.bl c∧Q (.bl (!c)) H1
theorem jh {op} {t:TE} (h:PE X a t):PE X (.BoolOp op [a] pos) t:=fun pins s σ H Q I hw=>BoolOp_one (h pins s σ H Q I hw)
theorem j7 (ha:PE X a ta) (hb:PE X (.BoolOp .And (b :: rest) pos) tb):PE X (.BoolOp .And (a :: b :: rest) pos) (z96 ta tb):=by
 intro pins s σ H Q I h
 refine BoolOp_and (thn (ha pins s σ H _ I h) fun v s1 zz=>?_)
 obtain ⟨x,H1,I1,r1,q1⟩:=zz
 obtain ⟨c,rfl,q1⟩:=q1
 cases r1
 refine wpAny_truthy_bool ?_
 cases c with
 | true=>exact hb pins s1 σ H1 Q I1 q1
 | false=>exact ⟨.bl false,H1,I1,rfl,q1⟩
theorem z4s (ha:PE X a ta) (hb:PE X (.BoolOp .Or (b :: rest) pos) tb):PE X (.BoolOp .Or (a :: b :: rest) pos) (tOrV ta tb):=by
 intro pins s σ H Q I h
 refine BoolOp_or (thn (ha pins s σ H _ I h) fun v s1 zz=>?_)
 obtain ⟨x,H1,I1,r1,q1⟩:=zz
 obtain ⟨c,rfl,q1⟩:=q1
 cases r1
 refine wpAny_truthy_bool ?_
 cases c with
 | false=>exact hb pins s1 σ H1 Q I1 q1
 | true=>exact ⟨.bl true,H1,I1,rfl,q1⟩
theorem z0j (ha:PE X a ta):PE X (.UnaryOp .Not a pos) (z91 ta):=by
 intro pins s σ H Q I h
 refine UnaryOp_ (thn (ha pins s σ H _ I h) fun v s1 zz=>?_)
 obtain ⟨x,H1,I1,r1,q1⟩:=zz
 obtain ⟨c,rfl,q1⟩:=q1
 cases r1
 exact not_of (wpAny_truthy_bool ⟨.bl (!c),H1,I1,rfl,q1⟩)
def tIf (t:TT) (ta tb:TE):TE:=fun σ H Q=>t σ H fun c H1=>if c=true then ta σ H1 Q else tb σ H1 Q
theorem qG {c:Expr} (hc:PT X c tA) (ha:PE X a ta) (hb:PE X b tb):PE X (.IfExp c a b pos) (tIf tA ta tb):=by
 intro pins s σ H Q I h
 refine wpAny_IfExp (thn (hc pins s σ H _ I h) fun d s1 zz=>?_)
 obtain ⟨H1,I1,q1⟩:=zz
 cases d with
 | true=>exact ha pins s1 σ H1 Q I1 q1
 | false=>exact hb pins s1 σ H1 Q I1 q1
end
end L2
namespace L2
open PySem PySem.Spec PyProof.Rows
def SqL (K:ky) (H:Hp) (a:Addr) (xs:List V):Prop:=
 Rd H a (.lst xs)∨
  ∃(o:Obj) (its:Array Value) (n:Nat),K.lookup a=some o∧o.cls=.type "list"∧o.dict=none∧o.data=.seq its n∧its.size≤sizeLine∧Vals xs its.toList
def SqT (K:ky) (H:Hp) (a:Addr) (xs:List V):Prop:=
 Rd H a (.tup xs)∨
  ∃(o:Obj) (its:Array Value) (n:Nat),K.lookup a=some o∧o.cls=.type "tuple"∧o.data=.seq its n∧its.size≤sizeLine∧Vals xs its.toList
noncomputable def absV:Value→Option V
 | .none=>some .non
 | .bool b=>some (.bl b)
 | .int i _=>some (.int i)
 | .str x _=>some (.str x)
 | .bytes b _=>some (.byt b)
 | .float b _=>some (.flt b)
 | .ref a=>some (.ref a)
 | .type n=>some (.ty n)
 | _=>none
theorem RelV.abs {x:V} {u:Value} (r:RelV x u):absV u=some x:=by
 cases x with
 | non=>cases r;rfl
 | bl _=>cases r;rfl
 | int _=>obtain ⟨t,rfl⟩:=r;rfl
 | str _=>obtain ⟨t,rfl⟩:=r;rfl
 | byt _=>obtain ⟨t,rfl⟩:=r;rfl
 | flt _=>obtain ⟨t,rfl⟩:=r;rfl
 | ref _=>cases r;rfl
 | ty _=>cases r;rfl
theorem RelV.inj {x y:V} {u:Value} (r:RelV x u) (q:RelV y u):x=y:=kD (r.abs.symm.trans q.abs)
theorem Vals.inj:∀{xs ys:List V} {us:List Value},Vals xs us→Vals ys us→xs=ys
 | _,_,_,.nil,.nil=>rfl
 | _,_,_,.cons r t,.cons r' t'=>by rw [r.inj r',Vals.inj t t']
section
variable {X:Cx} {pins:List (Addr × Obj)} {σ:St} {H:Hp} {s:Shared} {a:Addr} {xs ys:List V}
theorem SqL.of {K:ky} (h:H a=some (.lst xs)):SqL K H a xs:=.inl (.inl h)
theorem SqT.of {K:ky} (h:H a=some (.tup xs)):SqT K H a xs:=.inl (.inl h)
theorem Inv.list (I:Inv X pins σ H s) (h:SqL X.K H a xs):∃its:List Value,Vals xs its∧PlainL s.heap a its.toArray∧xs.length≤sizeLine:=by
 rcases h with h | ⟨o,its,n,hk,hc,hd,hs,hz,r⟩
 ·obtain ⟨z,its,n,r,e⟩:=h.ok I.hok
  exact ⟨its,r,⟨_,n,e,rfl,rfl,rfl⟩,z⟩
 ·refine ⟨its.toList,r,⟨o,n,I.kIn a o hk,hc,hd,by simpa using hs⟩,?_⟩
  have e:=r.length
  simp only [Array.length_toList] at e
  lia
theorem Inv.tuple (I:Inv X pins σ H s) (h:SqT X.K H a xs):∃its:List Value,Vals xs its∧IsTup s.heap a its.toArray∧xs.length≤sizeLine:=by
 rcases h with h | ⟨o,its,n,hk,hc,hs,hz,r⟩
 ·obtain ⟨z,its,r,p⟩:=h.ok I.hok
  exact ⟨its,r,p,z⟩
 ·refine ⟨its.toList,r,⟨o,I.kIn a o hk,hc,n,by simpa using hs⟩,?_⟩
  have e:=r.length
  simp only [Array.length_toList] at e
  lia
theorem Inv.list_inj (I:Inv X pins σ H s) (h:SqL X.K H a xs) (h':SqL X.K H a ys):xs=ys:=by
 obtain ⟨its,r,⟨o,n,e,_,_,d⟩,_⟩:=I.list h
 obtain ⟨its',r',⟨o',n',e',_,_,d'⟩,_⟩:=I.list h'
 rw [e] at e';cases e'
 rw [d] at d'
 injection d' with d1 _
 have:its=its':=by simpa using congrArg Array.toList d1
 subst this
 exact r.inj r'
theorem Inv.tuple_inj (I:Inv X pins σ H s) (h:SqT X.K H a xs) (h':SqT X.K H a ys):xs=ys:=by
 obtain ⟨its,r,⟨o,e,_,n,d⟩,_⟩:=I.tuple h
 obtain ⟨its',r',⟨o',e',_,n',d'⟩,_⟩:=I.tuple h'
 rw [e] at e';cases e'
 rw [d] at d'
 injection d' with d1 _
 have:its=its':=by simpa using congrArg Array.toList d1
 subst this
 exact r.inj r'
end
noncomputable abbrev Cx.wish (X:Cx) (E:Value→Shared→Prop):Cx:={ X with xe:=E }
noncomputable abbrev Cx.nox (X:Cx):Cx:=X.wish fun _ _=>False
theorem Cx.Ok.wish {X:Cx} (ok:X.Ok) (E:Value→Shared→Prop):(X.wish E).Ok:=
 ⟨ok.mod,ok.kind,ok.glob,ok.blt,ok.above,ok.inj,ok.has,ok.cab,ok.hd,ok.frames,ok.stk,ok.exf,ok.bs,ok.bsz,ok.noex,ok.exfs,ok.funs,ok.frf⟩
theorem Cx.Ok.unwish {X:Cx} {E:Value→Shared→Prop} (ok:(X.wish E).Ok):X.Ok:=
 ⟨ok.mod,ok.kind,ok.glob,ok.blt,ok.above,ok.inj,ok.has,ok.cab,ok.hd,ok.frames,ok.stk,ok.exf,ok.bs,ok.bsz,ok.noex,ok.exfs,ok.funs,ok.frf⟩
section
variable {X:Cx} {pins:List (Addr × Obj)} {σ:St} {H:Hp} {s:Shared} {E:Value→Shared→Prop}
theorem Inv.wish (I:Inv X pins σ H s) (E:Value→Shared→Prop):Inv (X.wish E) pins σ H s:=⟨I.ok.wish E,I.os,I.bare,I.base,I.loc,I.cell,I.free,I.freeC,I.pin,I.hok,I.len⟩
theorem Inv.unwish (I:Inv (X.wish E) pins σ H s):Inv X pins σ H s:=⟨I.ok.unwish,I.os,I.bare,I.base,I.loc,I.cell,I.free,I.freeC,I.pin,I.hok,I.len⟩
theorem SP.unwish {D:Ends} {f:Flow} {s':Shared} (h:SP (X.wish E) pins D f s'):SP X pins D f s':=by
 cases f with
 | next=>obtain ⟨σ',H',I,q⟩:=h;exact ⟨σ',H',I.unwish,q⟩
 | brk=>obtain ⟨σ',H',I,q⟩:=h;exact ⟨σ',H',I.unwish,q⟩
 | cont=>obtain ⟨σ',H',I,q⟩:=h;exact ⟨σ',H',I.unwish,q⟩
 | ret u=>obtain ⟨v,σ',H',I,r,q⟩:=h;exact ⟨v,σ',H',I.unwish,r,q⟩
theorem PSs.nox {st:List Stmt} {t:TS} (h:PSs X.nox st t):PSs X st t:=fun pins s σ H D I hw=>
 wpAny_mono (h pins s σ H D (I.wish _) hw) (fun _ _ q=>q.unwish) fun _ _ z=>False.elim z
end
section
variable {X:Cx} {st:Stmt} {rest:List Stmt} {t u:TS} {e:Expr} {te:TE} {pos:Pos}
def z92:TS:=fun D σ H=>D.nx σ H
def tSeq (t u:TS):TS:=fun D σ H=>t { D with nx:=u D } σ H
theorem zu:PSs X [] z92:=fun _ _ σ H _ I h=>wpAny_execs_nil ⟨σ,H,I,h⟩
theorem z8 (h1:PS X st t) (h2:PSs X rest u):PSs X (st :: rest) (tSeq t u):=by
 intro pins s σ H D I h
 refine wpAny_execs_cons (thn (h1 pins s σ H { D with nx:=u D } I h) fun f s1 q=>?_)
 cases f with
 | next=>
  obtain ⟨σ',H',I',q⟩:=q
  exact h2 pins s1 σ' H' D I' q
 | ret v=>exact q
 | brk=>exact q
 | cont=>exact q
theorem zc (h1:PS X st t):PSs X [st] t:=by
 intro pins s σ H D I h
 refine wpAny_execs_cons (thn (h1 pins s σ H D I h) fun f s1 q=>?_)
 cases f with
 | next=>exact wpAny_execs_nil q
 | ret v=>exact q
 | brk=>exact q
 | cont=>exact q
theorem Inv.quiet {pins:List (Addr × Obj)} {σ:St} {H:Hp} {s:Shared} (I:Inv X pins σ H s):interactive X.env=false:=by simp [interactive,I.ok.kind]
def z7v (te:TE):TS:=fun D σ H=>te σ H fun _ H1=>D.nx σ H1
theorem zk (he:PE X e te) (hs:autoParam (swapsWith e none pos.line X.env=pure false) aR._auto_1):PS X (.Expr e pos) (z7v te):=by
 intro pins s σ H D I h
 exact wpAny_Expr_any (thn (he pins s σ H _ I h) fun v s1 ⟨x,H1,I1,r1,q1⟩=>⟨σ,H1,I1,q1⟩) I.quiet hs
def tRet (te:TE):TS:=fun D σ H=>te σ H D.rt
theorem zm (he:PE X e te):PS X (.Return (some e) pos) (tRet te):=by
 intro pins s σ H D I h
 exact wpAny_Return_some (thn (he pins s σ H _ I h) fun v s1 ⟨x,H1,I1,r1,q1⟩=>⟨x,σ,H1,I1,r1,q1⟩)
def z8Z:TS:=fun D _ H=>D.rt .non H
theorem z6l:PS X (.Return none pos) z8Z:=fun _ _ σ H _ I h=>wpAny_Return_none ⟨.non,σ,H,I,rfl,h⟩
def tIfS (c:TT) (t u:TS):TS:=fun D σ H=>c σ H fun b H1=>if b=true then t D σ H1 else u D σ H1
theorem zD {c:Expr} {a b:List Stmt} {tc:TT} (hc:PT X c tc) (ha:PSs X a t) (hb:PSs X b u):PS X (.If c a b pos) (tIfS tc t u):=by
 intro pins s σ H D I h
 refine wpAny_If (thn (hc pins s σ H _ I h) fun d s1 zz=>?_)
 obtain ⟨H1,I1,q1⟩:=zz
 cases d with
 | true=>exact ha pins s1 σ H1 D I1 q1
 | false=>exact hb pins s1 σ H1 D I1 q1
def z7s:TS:=fun _ _ _=>False
theorem qZ {sts:List Stmt}:PSs X sts z7s:=fun _ _ _ _ _ _ h=>h.elim
end
abbrev TG:=V→St→Hp→(St→Hp→Prop)→Prop
abbrev TGs:=List V→St→Hp→(St→Hp→Prop)→Prop
def PG (X:Cx) (target:Expr) (t:TG):Prop:=
 ∀(pins:List (Addr × Obj)) (s:Shared) (σ:St) (H:Hp) (v:V) (u:Value) (Q:St→Hp→Prop),Inv X pins σ H s→RelV v u→t v σ H Q→
  wpAny (model X.prog X.w) X.A (assign target X.env u) (fun _ s'=>∃σ' H',Inv X pins σ' H' s'∧Q σ' H') X.xe s
def PGs (X:Cx) (ts:List Expr) (t:TGs):Prop:=
 ∀(pins:List (Addr × Obj)) (s:Shared) (σ:St) (H:Hp) (vs:List V) (us:List Value) (Q:St→Hp→Prop),Inv X pins σ H s→Vals vs us→t vs σ H Q→
  wpAny (model X.prog X.w) X.A (assignInOrder ((assignEach ts X.env).map (·.2)) us) (fun _ s'=>∃σ' H',Inv X pins σ' H' s'∧Q σ' H') X.xe s
abbrev TSet:=V→V→V→Hp→(Hp→Prop)→Prop
def PSet (X:Cx) (t:TSet):Prop:=
 ∀(pins:List (Addr × Obj)) (s:Shared) (σ:St) (H:Hp) (o i v:V) (ov iv u:Value) (Q:Hp→Prop),Inv X pins σ H s→RelV o ov→RelV i iv→RelV v u→t o i v H Q→
  wpAny (model X.prog X.w) X.A (setItem ov iv u) (fun _ s'=>∃H',Inv X pins σ H' s'∧Q H') X.xe s
abbrev TIp:=V→V→Hp→VK→Prop
def PIp (X:Cx) (op:Operator) (t:TIp):Prop:=
 ∀(pins:List (Addr × Obj)) (s:Shared) (σ:St) (H:Hp) (x y:V) (v u:Value) (Q:VK),Inv X pins σ H s→RelV x v→RelV y u→t x y H Q→
  wpAny (model X.prog X.w) X.A (inplaceOp op v u) (EP X pins σ Q) X.xe s
section
variable {X:Cx} {pos:Pos}
def z3C (i:Nat):TG:=fun v σ H Q=>Q (σ.set i (some v)) H
theorem zB {i:Nat} {x:Str} (hN:X.N.Nodup) (hi:X.N[i]?=some x) (hx:Loc X.env.scope x) (hf:X.fn x=true∨X.env.scope.names.lookup x=some .local:=by first | exact .inl rfl | exact .inr rfl | assumption):PG X (.Name x pos) (z3C i):=by
 intro pins s σ H v u Q I r h
 exact wpAny_assign_Name (ZA I hN hi hx r (fun s' I'=>⟨_,H,I',h⟩) hf)
def gNil:TGs:=fun vs σ H Q=>vs=[]∧Q σ H
def z9D (t:TG) (u:TGs):TGs:=fun vs σ H Q=>∃v r,vs=v :: r∧t v σ H fun σ' H'=>u r σ' H' Q
theorem qy:PGs X [] gNil:=by
 intro pins s σ H vs us Q I r h
 obtain ⟨e,h⟩:=h
 subst e
 cases r
 exact assignInOrder_nil ⟨σ,H,I,h⟩
theorem zt {e:Expr} {es:List Expr} {t:TG} {u:TGs} (h1:PG X e t) (h2:PGs X es u)
  (hs:autoParam ((assignEach (e :: es) X.env).map (·.2)=assign e X.env :: (assignEach es X.env).map (·.2)) aR._auto_1):PGs X (e :: es) (z9D t u):=by
 intro pins s σ H vs us Q I r h
 obtain ⟨v,vr,e1,h⟩:=h
 subst e1
 cases r with
 | cons r rr=>
  rw [hs]
  refine assignInOrder_cons (thn (h1 pins s σ H _ _ _ I r h) fun _ s1 zz=>?_)
  obtain ⟨σ1,H1,I1,q1⟩:=zz
  exact h2 pins s1 σ1 H1 _ _ Q I1 rr q1
def gTup (K:ky) (n:Nat) (t:TGs):TG:=fun v σ H Q=>∃a xs,v=.ref a∧SqT K H a xs∧xs.length=n∧t xs σ H Q
theorem jg {es:List Expr} {k:Nat} {t:TGs} {n:Nat} (hc:X.calm=true) (h:PGs X es t)
  (hn:autoParam ((assignEach es X.env).length=n) aR._auto_1) (hst:autoParam ((assignEach es X.env).findIdx? (·.1)=none) aR._auto_1):PG X (.Tuple es k pos) (gTup X.K n t):=by
 intro pins s σ H v u Q I r hw
 obtain ⟨a,xs,e1,hq,hl,hw⟩:=hw
 subst e1
 cases r
 obtain ⟨its,rv,ht,hz⟩:=I.tuple hq
 refine assign_Tuple_tuple (I.ok.hd hc) ht (by simp [hn,←hl,rv.length]) hst fun h' hx=>?_
 have I1:Inv X pins σ H { s with heap:=h' }:=I.kept (t':=s.toks) fun b o e=>hx b o (Nat.ne_of_lt (Heap.lt_size e)) e
 exact h pins _ σ H xs _ Q I1 (by simpa using rv) hw
def gSub (to ti:TE) (t:TSet):TG:=fun v σ H Q=>to σ H fun o H1=>ti σ H1 fun i H2=>t o i v H2 fun H3=>Q σ H3
theorem Qb {o i:Expr} {to ti:TE} {t:TSet} (ho:PE X o to) (hi:PE X i ti) (hs:PSet X t)
  (ha:∀v,assign (.Subscript o i pos) X.env v=(do
   let ov ←holding [v] (eval o X.env)
   let iv ←holding [v,ov] (eval i X.env)
   standAt pos
   holding [v,ov,iv] (setItem ov iv v)
   release [v,ov,iv] []):=by intro _;rfl):PG X (.Subscript o i pos) (gSub to ti t):=by
 intro pins s σ H v u Q I r h
 rw [ha]
 refine wpAny_bind (wpAny_holding (thn (ho pins s σ H _ I h) fun ov s1 zz=>?_))
 obtain ⟨x,H1,I1,r1,q1⟩:=zz
 refine wpAny_bind (wpAny_holding (thn (hi pins s1 σ H1 _ I1 q1) fun iv s2 zz=>?_))
 obtain ⟨y,H2,I2,r2,q2⟩:=zz
 refine wpAny_bind (wpAny_standAt (wpAny_bind (wpAny_holding (thn (hs pins s2 σ H2 x y v ov iv u _ I2 r1 r2 r q2) fun _ s3 zz=>?_))))
 obtain ⟨H3,I3,q3⟩:=zz
 exact wpAny_release ⟨σ,H3,I3,q3⟩
def tAsg (te:TE) (g:TG):TS:=fun D σ H=>te σ H fun x H1=>g x σ H1 D.nx
theorem j6 {tg e:Expr} {te:TE} {g:TG} (he:PE X e te) (hg:PG X tg g) (hs:autoParam (swapsWithSole [tg] e pos.line X.env=pure false) aR._auto_1) (hw:autoParam (swappedStores [tg] e X.env=pure none) aR._auto_1)
  (h1:autoParam ((assignEach [tg] X.env).map (·.2)=[assign tg X.env]) aR._auto_1):PS X (.Assign [tg] e pos) (tAsg te g):=by
 intro pins s σ H D I h
 refine wpAny_Assign_stores (thn (he pins s σ H _ I h) fun v s1 ⟨x,H1,I1,r1,q1⟩=>?_) hs hw
 rw [h1]
 exact thn (hg pins s1 σ H1 x v _ I1 r1 q1) fun _ s2 q=>q
theorem zA {i:Nat} {x:Str} {e:Expr} {te:TE} {pos':Pos} (hN:X.N.Nodup) (hi:X.N[i]?=some x) (hx:Loc X.env.scope x) (he:PE X e te) (hs:autoParam (swapsWith e (some (.Name x pos')) pos.line X.env=pure false) aR._auto_1) (hf:X.fn x=true∨X.env.scope.names.lookup x=some .local:=by first | exact .inl rfl | exact .inr rfl | assumption):
  PS X (.Assign [.Name x pos'] e pos) (tAsg te (z3C i)):=by
 intro pins s σ H D I h
 refine wpAny_Assign_Name (thn (he pins s σ H _ I h) fun v s1 ⟨y,H1,I1,r1,q1⟩=>?_) hs
 exact ZA I1 hN hi hx r1 (fun s2 I2=>⟨_,H1,I2,q1⟩) hf
def tPar (i j:Nat) (ta:TA):TS:=fun D σ H=>ta σ H fun vs H1=>∃v w,vs=[v,w]∧D.nx ((σ.set i (some v)).set j (some w)) H1
theorem ZD {i j:Nat} {x y:Str} {a b:Expr} {ta:TA} {px py pt:Pos} {kt k2 pt2} (hc:X.calm=true) (hN:X.N.Nodup) (hi:X.N[i]?=some x) (hj:X.N[j]?=some y) (hij:i≠j)
  (hx:X.env.scope.names.lookup x=some .local) (hy:X.env.scope.names.lookup y=some .local) (ha:PA X [a,b] ta)
  (hw:swappedStores [.Tuple [.Name x px,.Name y py] kt pt] (.Tuple [a,b] k2 pt2) X.env=pure (some [x,y]))
  (hs:autoParam (swapsWithSole [.Tuple [.Name x px,.Name y py] kt pt] (.Tuple [a,b] k2 pt2) pos.line X.env=pure false) aR._auto_1):
  PS X (.Assign [.Tuple [.Name x px,.Name y py] kt pt] (.Tuple [a,b] k2 pt2) pos) (tPar i j ta):=by
 intro pins s σ H D I h
 rw [exec_Assign_arm]
 refine wpAny_bind (wpAny_standAt ?_)
 rw [hs]
 refine wpAny_bind (wpAny_pure ?_)
 rw [kz (by decide)]
 refine wpAny_bind (Tuple_ (thn (ha _ pins s σ H _ I h) fun us s1 zz=>?_))
 obtain ⟨vs,H1,I1,r1,q1⟩:=zz
 obtain ⟨v,w,e1,q1⟩:=q1
 subst e1
 obtain ⟨u1,u2,rfl,rv,rw'⟩:∃u1 u2,us=[u1,u2]∧RelV v u1∧RelV w u2:=by
  cases r1 with
  | cons p q=>
   cases q with
   | cons p' q'=>
    cases q'
    exact ⟨_,_,rfl,p,p'⟩
 refine wpAny_newObj_type ?_ (by show 2≤sizeLine;decide)
 have I2:Inv X pins σ H1 { s1 with heap:=s1.heap.push { cls:=.type "tuple",data:=.seq [u1,u2].toArray } }:=I1.kept (t':=s1.toks) fun b o e=>Heap.get?_push_of_some _ e
 rw [hw]
 refine wpAny_bind (wpAny_pure ?_)
 show wpAny (model X.prog X.w) X.A (do rule "assign.swapped-stores";let items ←unpackItems (.ref s1.heap.objs.size) 2 none;assignInOrder [fun v=>bindName X.env y v,fun v=>bindName X.env x v] items.reverse;pure Flow.next) _ _ _
 refine wpAny_bind (wpAny_rule (wpAny_bind (unpackItems_tuple (items:=#[u1,u2]) (I.ok.hd hc) (IsTup.new s1.heap _) fun h' hx'=>?_)))
 have I3:=I2.kept (h':=h') (t':=s1.toks) fun b o e=>hx' b o (Nat.ne_of_lt (Heap.lt_size e)) e
 show wpAny _ _ (assignInOrder [fun v=>bindName X.env y v,fun v=>bindName X.env x v] [u2,u1] >>= fun _=>pure Flow.next) _ _ _
 refine wpAny_bind (assignInOrder_cons (wpAny_bindName (ZA I3 hN hj (.inl hy) rw' (fun s2 I4=>?_) (.inr hy))))
 refine assignInOrder_cons (wpAny_bindName (ZA I4 hN hi (.inl hx) rv (fun s3 I5=>assignInOrder_nil (wpAny_pure ?_)) (.inr hx)))
 rw [List.set_comm _ _ (Ne.symm hij)] at I5
 exact ⟨_,H1,I5,q1⟩
def tAug (i:Nat) (te:TE) (ti:TIp):TS:=fun D σ H=>∃x,σ[i]?=some (some x)∧te σ H fun y H1=>ti x y H1 fun z H2=>D.nx (σ.set i (some z)) H2
theorem z7U {i:Nat} {x:Str} {e:Expr} {te:TE} {op:Operator} {ti:TIp} {pos':Pos} (hN:X.N.Nodup) (hi:X.N[i]?=some x) (hx:Loc X.env.scope x) (he:PE X e te) (ho:PIp X op ti) (hf:X.fn x=true∨X.env.scope.names.lookup x=some .local:=by first | exact .inl rfl | exact .inr rfl | assumption):
  PS X (.AugAssign (.Name x pos') op e pos) (tAug i te ti):=by
 intro pins s σ H D I h
 obtain ⟨v,e1,h⟩:=h
 obtain ⟨m,hn,hl⟩:=I.loc
 have vis:Vis X.env.scope x:=by rcases hx with k | k;exact .inl k;exact .inr (.inl k)
 obtain ⟨u,r,l⟩:=hl i x v hi e1 vis
 refine wpAny_AugAssign_Name ?_
 have go:wpAny (model X.prog X.w) X.A (eval e X.env) (fun w s₂=>wpAny (model X.prog X.w) X.A (inplaceOp op u w) (fun r s₃=>wpAny (model X.prog X.w) X.A (storeName X.env x r) (fun _=>SP X pins D .next) X.xe s₃) X.xe s₂) X.xe s:=by
  refine thn (he pins s σ H _ I h) fun w s1 zz=>?_
  obtain ⟨y,H1,I1,r1,q1⟩:=zz
  refine thn (ho pins s1 σ H1 v y u w _ I1 r r1 q1) fun z s2 zz=>?_
  obtain ⟨zv,H2,I2,r2,q2⟩:=zz
  exact ZA I2 hN hi hx r2 (fun s3 I3=>⟨_,H2,I3,q2⟩) hf
 rcases l with ⟨hk,hm⟩ | ⟨hk,c,hc,hcell⟩
 ·exact wpAny_loadName_local I.ok.kind hk hn hm go
 ·rcases hk with hk | hk
  ·exact wpAny_loadName_cell I.ok.kind hk hc hcell go
  ·rcases hx with k | k
   ·have:X.env.scope.names.lookup x=some .free:=hk
    rw [k] at this;cases this
   ·have:X.env.scope.names.lookup x=some .free:=hk
    rw [k] at this;cases this
def ipI (f:Int→Int→Int):TIp:=fun x y H Q=>∃i j,x=.int i∧y=.int j∧Q (.int (f i j)) H
theorem z8l:PIp X .Add (ipI fun i j=>i+j):=by
 intro pins s σ H x y v u Q I r1 r2 h
 obtain ⟨i,j,e1,e2,q⟩:=h
 subst e1;subst e2
 obtain ⟨t,rfl⟩:=r1
 obtain ⟨t',rfl⟩:=r2
 exact iadd_int ⟨.int _,H,I.tok _,⟨_,rfl⟩,q⟩
end
section
variable {X:Cx} {pos:Pos}
def z7p (c:TT) (tb:TS):TS:=fun D σ H=>∃W:Nat→St→Hp→Prop,(∃m,W m σ H)∧∀m σ H,W m σ H→
 c σ H fun b H1=>if b=true then ∃N:St→Hp→Prop,(∀σ' H',N σ' H'→∃m',m' < m∧W m' σ' H')∧tb { D with nx:=N,ct:=N,bk:=D.nx } σ H1 else D.nx σ H1
theorem ZC {c:Expr} {body:List Stmt} {tc:TT} {tb:TS} (hp:PassesOwn (model X.prog X.w) X.A X.env X.xe) (hc:PT X c tc) (hb:PSs X body tb):PS X (.While c body [] pos) (z7p tc tb):=by
 intro pins s σ H D I h
 obtain ⟨W,⟨m0,w0⟩,turn⟩:=h
 refine wpAny_While (codeAny_whileLoop (fun n s'=>∃σ' H',Inv X pins σ' H' s'∧W n σ' H') ?_ m0 ⟨σ,H,I,w0⟩)
 rintro n s1 ⟨σ1,H1,I1,w1⟩
 refine wpAny_passesOwn hp (thn (hc pins s1 σ1 H1 _ I1 (turn n σ1 H1 w1)) fun b s2 zz=>?_)
 obtain ⟨H2,I2,q2⟩:=zz
 cases b with
 | true=>
  obtain ⟨N,hN,q2⟩:=q2
  rw [kC rfl]
  refine wpAny_passesOwn hp (thn (hb pins s2 σ1 H2 _ I2 q2) fun f s3 q3=>?_)
  cases f with
  | next=>
   obtain ⟨σ3,H3,I3,n3⟩:=q3
   obtain ⟨m',hm,w3⟩:=hN σ3 H3 n3
   exact ⟨m',hm,σ3,H3,I3,w3⟩
  | cont=>
   obtain ⟨σ3,H3,I3,n3⟩:=q3
   obtain ⟨m',hm,w3⟩:=hN σ3 H3 n3
   exact ⟨m',hm,σ3,H3,I3,w3⟩
  | brk=>exact q3
  | ret v=>exact q3
 | false=>
  rw [kz ka]
  exact wpAny_execs_nil ⟨σ1,H2,I2,q2⟩
end
structure It where
 go:Nat→Hp→Prop
 yld:Nat→Hp→V→Hp→Prop
 stop:Nat→Hp→Prop
def FpOk (X:Cx) (pins:List (Addr × Obj)) (H:Hp) (b:Addr):Prop:=
 H b=none∧b≠X.env.locals∧b∉X.fs∧(b∈X.ex∨X.s₀.heap.objs.size≤b)∧(∀x c,X.env.cells.lookup x=some c→c≠b)∧∀p∈X.pn++pins,p.1≠b
theorem Inv.fpOk {X:Cx} {pins:List (Addr × Obj)} {σ:St} {H H':Hp} {s:Shared} {b:Addr} (I:Inv X pins σ H s) (hb:s.heap.objs.size≤b) (hn:H' b=none):FpOk X pins H' b:=by
 refine ⟨hn,Nat.ne_of_gt (kN I.lt hb),I.nofs hb,.inr (ku I.sz hb),fun x c e z=>?_,fun p hp z=>?_⟩
 ·obtain ⟨v,q⟩:=I.cell x c e
  exact absurd (kN q.lt (by rw [z];exact hb)) (Nat.lt_irrefl _)
 ·exact absurd (kN (Heap.lt_size (I.pin p hp).1) (by rw [z];exact hb)) (Nat.lt_irrefl _)
structure Turn (P:Program) (w:World) (K:ky) (tg:Expr) (J:It) (fp:List Addr) (it:Addr) (tn:Nat→Heap→Prop):Prop where
 mem:it∈fp
 obj:∀i h,tn i h→∀b∈fp,∃o,h.get? b=some o∧∀v,o.data≠.cell v
 keep:∀i h h',tn i h→(∀b∈fp,∀o,h.get? b=some o→h'.get? b=some o)→tn i h'
 item:∀(X:Cx),X.prog=P→X.w=w→X.K=K→X.calm=true→∀(i:Nat) (pins:List (Addr × Obj)) (s:Shared) (σ:St) (H:Hp) (E:Value→Shared→Prop),Inv X pins σ H s→(∀b∈fp,FpOk X pins H b)→tn i s.heap→J.go i H→
  wpAny (model P w) X.A (pyNext (.ref it)) (fun r s1=>∃u,r=some u∧
   wpAny (model P w) X.A (letOwnedTupleGo tg (.ref it) u) (fun _ s2=>∃x H',Inv X pins σ H' s2∧RelV x u∧J.yld i H x H'∧tn (i+1) s2.heap∧∀b∈fp,H' b=none) E s1) E s
 done:∀(X:Cx),X.prog=P→X.w=w→X.K=K→X.calm=true→∀(i:Nat) (pins:List (Addr × Obj)) (s:Shared) (σ:St) (H:Hp) (E:Value→Shared→Prop),Inv X pins σ H s→(∀b∈fp,FpOk X pins H b)→tn i s.heap→J.stop i H→
  wpAny (model P w) X.A (pyNext (.ref it)) (fun r s1=>r=none∧Inv X pins σ H s1) E s
 self:∀(A:Around) (i:Nat) (s:Shared) (Q:Value→Shared→Prop) (E:Value→Shared→Prop),tn i s.heap→Q (.ref it) s→wpAny (model P w) A (pyIter (.ref it)) Q E s
abbrev TI:=St→Hp→(It→Hp→Prop)→Prop
def PIE (X:Cx) (pins:List (Addr × Obj)) (σ:St) (tg:Expr) (R:It→Hp→Prop) (itv:Value) (s2:Shared):Prop:=
 ∃(it:Addr) (fp:List Addr) (tn:Nat→Heap→Prop) (J:It) (H':Hp),itv=.ref it∧Inv X pins σ H' s2∧Turn X.prog X.w X.K tg J fp it tn∧tn 0 s2.heap∧(∀b∈fp,FpOk X pins H' b)∧R J H'
def PI (X:Cx) (tg iter:Expr) (wi:TI):Prop:=
 ∀(pins:List (Addr × Obj)) (s:Shared) (σ:St) (H:Hp) (R:It→Hp→Prop),Inv X pins σ H s→wi σ H R→
  wpAny (model X.prog X.w) X.A (eval iter X.env) (fun v s1=>wpAny (model X.prog X.w) X.A (pyIter v) (PIE X pins σ tg R) X.xe s1) X.xe s
theorem z6C {M:Model} {A:Around} {E:Value→Shared→Prop} {s:Shared} {tg:Expr} {it:Addr} {u:Value} {o:Obj} {n:String} {vs:Array Value} {Q:Unit→Shared→Prop} (ho:s.heap.get? it=some o) (hc:o.cls=.type n) (hd:o.data=.fields vs)
  (hn:["enumerate","zip","dict_itemiterator","dict_reverseitemiterator","odict_iterator","itertools.zip_longest","itertools.pairwise"].contains n=false) (hQ:Q () s):wpAny M A (letOwnedTupleGo tg (.ref it) u) Q E s:=by
 unfold letOwnedTupleGo
 cases tg <;> first
  | exact wpAny_pure hQ
  | (cases u <;> first
    | exact wpAny_pure hQ
    | (refine wpAny_bind (wpAny_load ho ?_);rw [hc,hd];show wpAny M A (if (["enumerate","zip","dict_itemiterator","dict_reverseitemiterator","odict_iterator","itertools.zip_longest","itertools.pairwise"].contains n&&vs[0]? == some (rawInt _))=true then _ else _) Q E s;rw [kz (by intro h;rw [hn,Bool.false_and] at h;cases h)];exact wpAny_pure hQ))
noncomputable def Itl (K:ky) (a:Addr):It:=
 ⟨fun i H=>∃xs x,SqL K H a xs∧xs[i]?=some x,fun i H x H'=>H'=H∧∀xs,SqL K H a xs→xs[i]?=some x,fun i H=>∃xs,SqL K H a xs∧xs.length≤i⟩
noncomputable def Itt (K:ky) (a:Addr):It:=
 ⟨fun i H=>∃xs x,SqT K H a xs∧xs[i]?=some x,fun i H x H'=>H'=H∧∀xs,SqT K H a xs→xs[i]?=some x,fun i H=>∃xs,SqT K H a xs∧xs.length≤i⟩
noncomputable def Itr (lo:Int) (n:Nat):It:=⟨fun i _=>i < n,fun i H x H'=>H'=H∧x=.int (lo+i),fun i _=>n≤i⟩
theorem z2E {P:Program} {w:World} {K:ky} {tg:Expr} (a it:Addr):Turn P w K tg (Itl K a) [it] it (fun i h=>h.IsListIter it a i) where
 mem:=by simp
 obj:=fun i h st b hb=>by
  have e:b=it:=by simpa using hb
  subst e
  obtain ⟨o,e,c,d⟩:=st
  exact ⟨o,e,fun v z=>by rw [d] at z;cases z⟩
 keep:=fun i h h' st k=>st.at fun o e=>k it (by simp) o e
 item:=by
  intro X hP hw hK hc i pins s σ H E I hf st hg
  subst hP hw hK
  obtain ⟨xs,x,hq,hx⟩:=hg
  obtain ⟨its,rv,p,hz⟩:=I.list hq
  obtain ⟨u,hu,ru⟩:=rv.get hx
  obtain ⟨f0,f1,f2,f3,f4,f5⟩:=hf it (by simp)
  refine wpAny_pyNext_list_item st p.isList (x:=u) (by simpa using hu) fun h' st' sb=>?_
  have I1:Inv X pins σ H { s with heap:=h' }:=I.turned (t':=s.toks) (fun b o hb e=>(sb.2 b hb).trans e) f0 f1 f3 f4 f5
  obtain ⟨o,e,c,d⟩:=id st'
  exact ⟨u,rfl,z6C (s:={ s with heap:=h' }) e c d (by decide) ⟨x,H,I1,ru,⟨rfl,fun ys hy=>by rw [I.list_inj hy hq];exact hx⟩,st',fun b hb=>(hf b hb).1⟩⟩
 done:=by
  intro X hP hw hK hc i pins s σ H E I hf st hg
  subst hP hw hK
  obtain ⟨xs,hq,hx⟩:=hg
  obtain ⟨its,rv,p,hz⟩:=I.list hq
  obtain ⟨f0,f1,f2,f3,f4,f5⟩:=hf it (by simp)
  have hl:=rv.length
  exact wpAny_pyNext_list_end (I.ok.hd hc) st p.isList (by simp;lia) fun h' eb=>⟨rfl,I.turned (t':=s.toks) (fun b o hb e=>eb b o hb e) f0 f1 f3 f4 f5⟩
 self:=fun _ _ _ _ _ st h=>wpAny_pyIter_listiter st h
theorem z23 {P:Program} {w:World} {K:ky} {tg:Expr} (a it:Addr):Turn P w K tg (Itt K a) [it] it (fun i h=>h.IsTupleIter it a i) where
 mem:=by simp
 obj:=fun i h st b hb=>by
  have e:b=it:=by simpa using hb
  subst e
  obtain ⟨o,e,c,d⟩:=st
  exact ⟨o,e,fun v z=>by rw [d] at z;cases z⟩
 keep:=fun i h h' st k=>st.at fun o e=>k it (by simp) o e
 item:=by
  intro X hP hw hK hc i pins s σ H E I hf st hg
  subst hP hw hK
  obtain ⟨xs,x,hq,hx⟩:=hg
  obtain ⟨its,rv,p,hz⟩:=I.tuple hq
  obtain ⟨u,hu,ru⟩:=rv.get hx
  obtain ⟨f0,f1,f2,f3,f4,f5⟩:=hf it (by simp)
  refine wpAny_pyNext_tuple_item st (show s.heap.IsTuple a its.toArray from p) (x:=u) (by simpa using hu) fun h' st' sb=>?_
  have I1:Inv X pins σ H { s with heap:=h' }:=I.turned (t':=s.toks) (fun b o hb e=>(sb.2 b hb).trans e) f0 f1 f3 f4 f5
  obtain ⟨o,e,c,d⟩:=id st'
  exact ⟨u,rfl,z6C (s:={ s with heap:=h' }) e c d (by decide) ⟨x,H,I1,ru,⟨rfl,fun ys hy=>by rw [I.tuple_inj hy hq];exact hx⟩,st',fun b hb=>(hf b hb).1⟩⟩
 done:=by
  intro X hP hw hK hc i pins s σ H E I hf st hg
  subst hP hw hK
  obtain ⟨xs,hq,hx⟩:=hg
  obtain ⟨its,rv,p,hz⟩:=I.tuple hq
  obtain ⟨f0,f1,f2,f3,f4,f5⟩:=hf it (by simp)
  have hl:=rv.length
  exact wpAny_pyNext_tuple_end (I.ok.hd hc) st (show s.heap.IsTuple a its.toArray from p) (by simp;lia) fun h' eb=>⟨rfl,I.turned (t':=s.toks) (fun b o hb e=>eb b o hb e) f0 f1 f3 f4 f5⟩
 self:=fun _ _ _ _ _ st h=>wpAny_pyIter_tupleiter st h
theorem z24 {P:Program} {w:World} {K:ky} {tg:Expr} (it:Addr) (lo:Int) (n:Nat):Turn P w K tg (Itr lo n) [it] it (fun i h=>IsRangeIter h it (lo+(i:Nat) * 1) ((n:Int) - (i:Nat)) 1) where
 mem:=by simp
 obj:=fun i h st b hb=>by
  have e:b=it:=by simpa using hb
  subst e
  exact ⟨_,st,fun v z=>by
   have z':Data.fields _=Data.cell v:=z
   cases z'⟩
 keep:=fun i h h' st k=>k it (by simp) _ st
 item:=by
  intro X hP hw hK hc i pins s σ H E I hf st hg
  subst hP hw hK
  obtain ⟨f0,f1,f2,f3,f4,f5⟩:=hf it (by simp)
  have W:=Walks.range (prog:=X.prog) (w:=X.w) (I.ok.hd hc) it lo 1 n
  refine W.item i s _ _ hg st fun v h' tk hv st' kk=>?_
  obtain ⟨t,rfl⟩:=hv
  have I1:Inv X pins σ H { s with heap:=h',toks:=tk }:=I.turned (fun b o hb e=>kk b o (by simpa using hb) e) f0 f1 f3 f4 f5
  refine ⟨_,rfl,z6C (s:={ s with heap:=h',toks:=tk }) (n:="range_iterator") st' rfl rfl (by decide) ⟨.int (lo+i),H,I1,⟨t,?_⟩,⟨rfl,rfl⟩,st',fun b hb=>(hf b hb).1⟩⟩
  rw [Int.mul_one]
 done:=by
  intro X hP hw hK hc i pins s σ H E I hf st hg
  subst hP hw hK
  obtain ⟨f0,f1,f2,f3,f4,f5⟩:=hf it (by simp)
  exact wpAny_pyNext_range_end (I.ok.hd hc) st (by have:n≤i:=hg;lia) fun h' eb=>⟨rfl,I.turned (t':=s.toks) (fun b o hb e=>eb b o hb e) f0 f1 f3 f4 f5⟩
 self:=fun _ _ _ _ _ st h=>wpAny_pyIter_rangeiter st h
end L2
namespace L2
open PySem PySem.Spec PyProof.Rows
section
variable {X:Cx} {tg:Expr}
def z9z (K:ky) (tl:TE):TI:=fun σ H R=>tl σ H fun x H1=>∃a,x=.ref a∧(∃xs,SqL K H1 a xs)∧R (Itl K a) H1
def iTup (K:ky) (tl:TE):TI:=fun σ H R=>tl σ H fun x H1=>∃a,x=.ref a∧(∃xs,SqT K H1 a xs)∧R (Itt K a) H1
theorem z18 {l:Expr} {tl:TE} (hl:PE X l tl):PI X tg l (z9z X.K tl):=by
 intro pins s σ H R I h
 refine thn (hl pins s σ H _ I h) fun v s1 zz=>?_
 obtain ⟨x,H1,I1,r1,q1⟩:=zz
 obtain ⟨a,e,⟨xs,hq⟩,q⟩:=q1
 subst e
 cases r1
 obtain ⟨its,rv,p,hz⟩:=I1.list hq
 refine wpAny_pyIter_list p.isList ?_
 refine ⟨s1.heap.objs.size,[s1.heap.objs.size],_,_,H1,rfl,I1.kept (t':=s1.toks) fun b o e=>Heap.get?_push_of_some _ e,z2E a _,⟨_,Heap.get?_push_size _ rfl,rfl,rfl⟩,fun b hb=>?_,q⟩
 have e:b=s1.heap.objs.size:=by simpa using hb
 subst e
 exact I1.fpOk (ke _) (I1.hok.fresh (ke _))
theorem z7X {l:Expr} {tl:TE} (hl:PE X l tl):PI X tg l (iTup X.K tl):=by
 intro pins s σ H R I h
 refine thn (hl pins s σ H _ I h) fun v s1 zz=>?_
 obtain ⟨x,H1,I1,r1,q1⟩:=zz
 obtain ⟨a,e,⟨xs,hq⟩,q⟩:=q1
 subst e
 cases r1
 obtain ⟨its,rv,p,hz⟩:=I1.tuple hq
 refine wpAny_pyIter_tuple (show s1.heap.IsTuple a its.toArray from p) ?_
 refine ⟨s1.heap.objs.size,[s1.heap.objs.size],_,_,H1,rfl,I1.kept (t':=s1.toks) fun b o e=>Heap.get?_push_of_some _ e,z23 a _,⟨_,Heap.get?_push_size _ rfl,rfl,rfl⟩,fun b hb=>?_,q⟩
 have e:b=s1.heap.objs.size:=by simpa using hb
 subst e
 exact I1.fpOk (ke _) (I1.hok.fresh (ke _))
theorem z4o {pins:List (Addr × Obj)} {σ:St} {H:Hp} {s:Shared} {R:It→Hp→Prop} {E:Value→Shared→Prop} {lo hi:Int} {t u v:Tok} {tk:Nat} (I:Inv X pins σ H s) (h1: -(2 ^ 62)≤lo) (h2:lo < 2 ^ 62) (h3: -(2 ^ 62)≤hi) (h4:hi < 2 ^ 62)
  (q:R (Itr lo (hi - lo).toNat) H):wpAny (model X.prog X.w) X.A (pyIter (.ref s.heap.objs.size)) (PIE X pins σ tg R) E { s with heap:=s.heap.push { cls:=.type "range",data:=.fields #[.int lo t,.int hi u,.int 1 v] },toks:=tk }:=by
 refine wpAny_pyIter_range (IsRange.new ..) (small_one h1 h2 h3 h4) ?_
 have I1:Inv X pins σ H { s with heap:=s.heap.push { cls:=.type "range",data:=.fields #[.int lo t,.int hi u,.int 1 v] },toks:=tk }:=I.kept fun b o e=>Heap.get?_push_of_some _ e
 refine ⟨(s.heap.push { cls:=.type "range",data:=.fields #[.int lo t,.int hi u,.int 1 v] }).objs.size,[(s.heap.push { cls:=.type "range",data:=.fields #[.int lo t,.int hi u,.int 1 v] }).objs.size],_,_,H,rfl,
  I1.kept (t':=tk) fun b o e=>Heap.get?_push_of_some _ e,z24 _ lo (hi - lo).toNat,?_,fun b hb=>?_,q⟩
 ·have e1:lo+((0:Nat):Int) * 1=lo:=by simp
  have e2:(((hi - lo).toNat:Nat):Int) - ((0:Nat):Int)=Builtin.Range.rangeSize lo hi 1:=by rw [rangeSize_one];split <;> lia
  show IsRangeIter _ _ (lo+((0:Nat):Int) * 1) ((((hi - lo).toNat:Nat):Int) - ((0:Nat):Int)) 1
  rw [e1,e2]
  exact Heap.get?_push_size _ rfl
 ·have e:b=(s.heap.push { cls:=.type "range",data:=.fields #[.int lo t,.int hi u,.int 1 v] }).objs.size:=by simpa using hb
  subst e
  exact I1.fpOk (ke _) (I1.hok.fresh (ke _))
def z8m (ta:TA):TI:=fun σ H R=>ta σ H fun vs H1=>∃j:Int,vs=[.int j]∧-(2 ^ 62)≤j∧j < 2 ^ 62∧R (Itr 0 j.toNat) H1
theorem ZG {a:Expr} {ta:TA} {p pos:Pos} (hg:Gl X "range") (hm:X.mg "range"=none) (ha:PA X [a] ta) (hs:autoParam (starEach [a] X.env=[(false,eval a X.env)]) aR._auto_1):PI X tg (.Call (.Name "range" p) [a] [] pos) (z8m ta):=by
 intro pins s σ H R I h
 refine Call_ (z0s I hg hm boot_range (PyProof.Rows.callWith_type1 (thn (ha pos pins s σ H _ I h) fun us s1 ⟨vs,H1,I1,r1,q1⟩=>?_) hs rfl))
 obtain ⟨j,e,q1,q2,q⟩:=q1
 subst e
 cases r1 with
 | cons r rr=>
  cases rr
  obtain ⟨t,rfl⟩:=r
  exact call_range_1 (z4o I1 (by lia) (by lia) q1 q2 (by simpa using q))
def tFor (wi:TI) (g:TG) (tb:TS):TS:=fun D σ H=>wi σ H fun J H1=>∃W:Nat→Nat→St→Hp→Prop,(∃m,W 0 m σ H1)∧∀i m σ H,W i m σ H→
 (J.stop i H∧D.nx σ H)∨(J.go i H∧∃N:St→Hp→Prop,(∀σ' H',N σ' H'→∃m',m' < m∧W (i+1) m' σ' H')∧∀x H',J.yld i H x H'→g x σ H' fun σ2 H2=>tb { D with nx:=N,ct:=N,bk:=D.nx } σ2 H2)
noncomputable def z0i (fp:List Addr) (h:Heap):List (Addr × Obj):=fp.filterMap fun b=>(h.get? b).map fun o=>(b,o)
theorem Ze {fp:List Addr} {h:Heap} {b:Addr} {o:Obj} (hb:b∈fp) (e:h.get? b=some o):(b,o)∈z0i fp h:=List.mem_filterMap.mpr ⟨b,hb,by rw [e];rfl⟩
theorem z3i {fp:List Addr} {h:Heap} {p:Addr × Obj} (hp:p∈z0i fp h):p.1∈fp∧h.get? p.1=some p.2:=by
 obtain ⟨b,hb,e⟩:=List.mem_filterMap.mp hp
 cases q:h.get? b with
 | none=>rw [q] at e;cases e
 | some o=>
  rw [q] at e
  have e':(b,o)=p:=kD e
  subst e'
  exact ⟨hb,q⟩
theorem Inv.pinned {pins:List (Addr × Obj)} {σ:St} {H:Hp} {s:Shared} {fp:List Addr} (I:Inv X pins σ H s) (hf:∀b∈fp,FpOk X pins H b) (ho:∀b∈fp,∃o,s.heap.get? b=some o∧∀v,o.data≠.cell v):Inv X (pins++z0i fp s.heap) σ H s:=
 I.pins_of fun p hp=>(kW.mp hp).elim (fun z=>I.pin p (kO _ z)) fun z=>by
  obtain ⟨hb,e⟩:=z3i z
  obtain ⟨f0,f1,f2,_⟩:=hf p.1 hb
  obtain ⟨o,e',d⟩:=ho p.1 hb
  rw [e] at e';cases e'
  exact ⟨e,f0,f1,f2,d⟩
theorem Inv.unpinned {pins pl:List (Addr × Obj)} {σ:St} {H:Hp} {s:Shared} (I:Inv X (pins++pl) σ H s):Inv X pins σ H s:=I.pins_of fun p hp=>I.pin p (kO _ (kP _ hp))
theorem ZE {iter:Expr} {body:List Stmt} {wi:TI} {g:TG} {tb:TS} {pos:Pos} (hp:PassesOwn (model X.prog X.w) X.A X.env X.xe) (hc:X.calm=true) (hi:PI X tg iter wi) (hg:PG X tg g) (hb:PSs X body tb)
  (hs:∀x,foldedSetIterable iter X.env x=pure x:=by intro _;rfl):PS X (.For tg iter body [] pos) (tFor wi g tb):=by
 intro pins s σ H D I h
 refine wpAny_For (thn (hi pins s σ H _ I h) fun v s1 h1=>thn h1 fun itv s2 h2=>?_) hs
 obtain ⟨it,fp,tn,J,H2,e,I2,T,st2,f2,W,⟨m0,w0⟩,turn⟩:=h2
 subst e
 have stat:∀{H':Hp},(∀b∈fp,H' b=none)→∀b∈fp,FpOk X pins H' b:=fun hn b hb=>⟨hn b hb,(f2 b hb).2⟩
 refine codeAny_forLoop_any (fun n s'=>∃i σ' H',Inv X pins σ' H' s'∧tn i s'.heap∧(∀b∈fp,H' b=none)∧W i n σ' H') ?_ m0 ⟨0,σ,H2,I2,st2,fun b hb=>(f2 b hb).1,w0⟩
 rintro n s3 ⟨i,σ3,H3,I3,st3,fr3,w3⟩
 rcases turn i n σ3 H3 w3 with ⟨stop,qn⟩ | ⟨go,N,hN,step⟩
 ·refine wpAny_passesOwn hp (thn (T.done X rfl rfl rfl hc i pins s3 σ3 H3 X.xe I3 (stat fr3) st3 stop) fun r s4 zz=>?_)
  obtain ⟨hr,I4⟩:=zz
  subst hr
  exact wpAny_execs_nil ⟨σ3,H3,I4,qn⟩
 ·refine wpAny_passesOwn hp (thn (T.item X rfl rfl rfl hc i pins s3 σ3 H3 X.xe I3 (stat fr3) st3 go) fun r s4 zz=>?_)
  obtain ⟨u,hr,h4⟩:=zz
  subst hr
  refine wpAny_passesOwn hp (thn h4 fun _ s5 zz=>?_)
  obtain ⟨x,H5,I5,r5,y5,st5,fr5⟩:=zz
  have I5':=I5.pinned (stat fr5) (T.obj _ _ st5)
  refine wpAny_passesOwn hp (thn (hg _ s5 σ3 H5 x u _ I5' r5 (step x H5 y5)) fun _ s6 zz=>?_)
  obtain ⟨σ6,H6,I6,q6⟩:=zz
  refine wpAny_passesOwn hp (thn (hb _ s6 σ6 H6 _ I6 q6) fun f s7 q7=>?_)
  have again:∀{σ7:St} {H7:Hp},Inv X (pins++z0i fp s5.heap) σ7 H7 s7→N σ7 H7→∃m,m < n∧∃i σ' H',Inv X pins σ' H' s7∧tn i s7.heap∧(∀b∈fp,H' b=none)∧W i m σ' H':=fun {σ7 H7} I7 n7=>by
   obtain ⟨m',hm,w7⟩:=hN σ7 H7 n7
   refine ⟨m',hm,i+1,σ7,H7,I7.unpinned,T.keep _ _ _ st5 fun b hb o e=>(I7.pin (b,o) (kO _ (kO _ (Ze hb e)))).1,fun b hb=>?_,w7⟩
   obtain ⟨o,e,d⟩:=T.obj _ _ st5 b hb
   exact (I7.pin (b,o) (kO _ (kO _ (Ze hb e)))).2.1
  cases f with
  | next=>obtain ⟨σ7,H7,I7,n7⟩:=q7;exact again I7 n7
  | cont=>obtain ⟨σ7,H7,I7,n7⟩:=q7;exact again I7 n7
  | brk=>obtain ⟨σ7,H7,I7,q7⟩:=q7;exact ⟨σ7,H7,I7.unpinned,q7⟩
  | ret v=>obtain ⟨x7,σ7,H7,I7,r7,q7⟩:=q7;exact ⟨x7,σ7,H7,I7.unpinned,r7,q7⟩
end
theorem z4O {K:ky} {a:Addr} {xs:List V} {g:TG} {tb:TS} {D:Ends} {σ:St} {H:Hp} (Pv:Nat→St→Hp→Prop) (h0:Pv 0 σ H) (hl:∀i σ H,i≤xs.length→Pv i σ H→SqL K H a xs)
  (hs:∀i x σ H,xs[i]?=some x→Pv i σ H→g x σ H fun σ2 H2=>tb { D with nx:=Pv (i+1),ct:=Pv (i+1),bk:=D.nx } σ2 H2) (hd:∀σ H,Pv xs.length σ H→D.nx σ H):
  ∃W:Nat→Nat→St→Hp→Prop,(∃m,W 0 m σ H)∧∀i m σ H,W i m σ H→
   ((Itl K a).stop i H∧D.nx σ H)∨((Itl K a).go i H∧∃N:St→Hp→Prop,(∀σ' H',N σ' H'→∃m',m' < m∧W (i+1) m' σ' H')∧∀x H',(Itl K a).yld i H x H'→g x σ H' fun σ2 H2=>tb { D with nx:=N,ct:=N,bk:=D.nx } σ2 H2):=by
 refine ⟨fun i m σ H=>m=xs.length - i∧i≤xs.length∧Pv i σ H,⟨xs.length,by simp,Nat.zero_le _,h0⟩,?_⟩
 rintro i m σ H ⟨rfl,hi,p⟩
 have q:=hl i σ H hi p
 by_cases hlt:i < xs.length
 ·refine .inr ⟨⟨xs,xs[i],q,by simp [hlt]⟩,Pv (i+1),fun σ' H' p'=>⟨xs.length - (i+1),by lia,rfl,hlt,p'⟩,fun x H' y=>?_⟩
  obtain ⟨e,y⟩:=y
  subst e
  exact hs i x σ _ (y xs q) p
 ·have e:i=xs.length:=by lia
  subst e
  exact .inl ⟨⟨xs,q,ke _⟩,hd σ H p⟩
theorem z6E {K:ky} {a:Addr} {xs:List V} {g:TG} {tb:TS} {D:Ends} {σ:St} {H:Hp} (Pv:Nat→St→Hp→Prop) (h0:Pv 0 σ H) (hl:∀i σ H,i≤xs.length→Pv i σ H→SqT K H a xs)
  (hs:∀i x σ H,xs[i]?=some x→Pv i σ H→g x σ H fun σ2 H2=>tb { D with nx:=Pv (i+1),ct:=Pv (i+1),bk:=D.nx } σ2 H2) (hd:∀σ H,Pv xs.length σ H→D.nx σ H):
  ∃W:Nat→Nat→St→Hp→Prop,(∃m,W 0 m σ H)∧∀i m σ H,W i m σ H→
   ((Itt K a).stop i H∧D.nx σ H)∨((Itt K a).go i H∧∃N:St→Hp→Prop,(∀σ' H',N σ' H'→∃m',m' < m∧W (i+1) m' σ' H')∧∀x H',(Itt K a).yld i H x H'→g x σ H' fun σ2 H2=>tb { D with nx:=N,ct:=N,bk:=D.nx } σ2 H2):=by
 refine ⟨fun i m σ H=>m=xs.length - i∧i≤xs.length∧Pv i σ H,⟨xs.length,by simp,Nat.zero_le _,h0⟩,?_⟩
 rintro i m σ H ⟨rfl,hi,p⟩
 have q:=hl i σ H hi p
 by_cases hlt:i < xs.length
 ·refine .inr ⟨⟨xs,xs[i],q,by simp [hlt]⟩,Pv (i+1),fun σ' H' p'=>⟨xs.length - (i+1),by lia,rfl,hlt,p'⟩,fun x H' y=>?_⟩
  obtain ⟨e,y⟩:=y
  subst e
  exact hs i x σ _ (y xs q) p
 ·have e:i=xs.length:=by lia
  subst e
  exact .inl ⟨⟨xs,q,ke _⟩,hd σ H p⟩
theorem ZR {lo:Int} {n:Nat} {g:TG} {tb:TS} {D:Ends} {σ:St} {H:Hp} (Pv:Nat→St→Hp→Prop) (h0:Pv 0 σ H)
  (hs:∀i σ H,i < n→Pv i σ H→g (.int (lo+i)) σ H fun σ2 H2=>tb { D with nx:=Pv (i+1),ct:=Pv (i+1),bk:=D.nx } σ2 H2) (hd:∀σ H,Pv n σ H→D.nx σ H):
  ∃W:Nat→Nat→St→Hp→Prop,(∃m,W 0 m σ H)∧∀i m σ H,W i m σ H→
   ((Itr lo n).stop i H∧D.nx σ H)∨((Itr lo n).go i H∧∃N:St→Hp→Prop,(∀σ' H',N σ' H'→∃m',m' < m∧W (i+1) m' σ' H')∧∀x H',(Itr lo n).yld i H x H'→g x σ H' fun σ2 H2=>tb { D with nx:=N,ct:=N,bk:=D.nx } σ2 H2):=by
 refine ⟨fun i m σ H=>m=n - i∧i≤n∧Pv i σ H,⟨n,by simp,Nat.zero_le _,h0⟩,?_⟩
 rintro i m σ H ⟨rfl,hi,p⟩
 by_cases hlt:i < n
 ·refine .inr ⟨hlt,Pv (i+1),fun σ' H' p'=>⟨n - (i+1),by lia,rfl,hlt,p'⟩,fun x H' y=>?_⟩
  obtain ⟨e,y⟩:=y
  subst e y
  exact hs i σ _ hlt p
 ·have e:i=n:=by lia
  subst e
  exact .inl ⟨ke _,hd σ H p⟩
end L2
namespace L2
open PySem PySem.Spec PyProof.Rows
abbrev R2:=V→V→Hp→VK→Prop
def OpR (X:Cx) (f:Value→Value→Sem Value) (r:R2):Prop:=
 ∀(pins:List (Addr × Obj)) (s:Shared) (σ:St) (H:Hp) (x y:V) (v u:Value) (Q:VK),Inv X pins σ H s→RelV x v→RelV y u→r x y H Q→
  wpAny (model X.prog X.w) X.A (f v u) (EP X pins σ Q) X.xe s
def UnR (X:Cx) (f:Value→Sem Value) (r:V→Hp→VK→Prop):Prop:=
 ∀(pins:List (Addr × Obj)) (s:Shared) (σ:St) (H:Hp) (x:V) (v:Value) (Q:VK),Inv X pins σ H s→RelV x v→r x H Q→
  wpAny (model X.prog X.w) X.A (f v) (EP X pins σ Q) X.xe s
def ZY (X:Cx) (f:Value) (r:List V→Hp→VK→Prop):Prop:=
 ∀(pins:List (Addr × Obj)) (s:Shared) (σ:St) (H:Hp) (xs:List V) (us:List Value) (Q:VK),Inv X pins σ H s→Vals xs us→r xs H Q→
  wpAny (model X.prog X.w) X.A (call f us) (EP X pins σ Q) X.xe s
def TruR (X:Cx) (r:V→Hp→(Bool→Hp→Prop)→Prop):Prop:=
 ∀(pins:List (Addr × Obj)) (s:Shared) (σ:St) (H:Hp) (x:V) (v:Value) (Q:Bool→Hp→Prop),Inv X pins σ H s→RelV x v→r x H Q→
  wpAny (model X.prog X.w) X.A (truthy v) (TP X pins σ Q) X.xe s
def tOp (r:R2) (ta tb:TE):TE:=fun σ H Q=>ta σ H fun x H1=>tb σ H1 fun y H2=>r x y H2 Q
def tUn (r:V→Hp→VK→Prop) (ta:TE):TE:=fun σ H Q=>ta σ H fun x H1=>r x H1 Q
def rI (C:Int→Int→Prop) (g:Int→Int→V):R2:=fun x y H Q=>∃i j,x=.int i∧y=.int j∧C i j∧Q (g i j) H
def rI0 (g:Int→Int→V):R2:=fun x y H Q=>∃i j,x=.int i∧y=.int j∧Q (g i j) H
def rU (g:Int→V):V→Hp→VK→Prop:=fun x H Q=>∃i,x=.int i∧Q (g i) H
section
variable {X:Cx} {a b c:Expr} {ta tb tc:TE} {pos:Pos}
theorem binT (ha:PE X a ta) (hb:PE X b tb) {pins:List (Addr × Obj)} {s:Shared} {σ:St} {H:Hp} {R:V→V→Hp→Prop} (I:Inv X pins σ H s)
  (h:ta σ H fun x H1=>tb σ H1 fun y H2=>R x y H2) {Q:Value→Shared→Prop} {f:Value→Value→Sem Value}
  (hf:∀v u s2 x y H2,Inv X pins σ H2 s2→RelV x v→RelV y u→R x y H2→wpAny (model X.prog X.w) X.A (f v u) Q X.xe s2):
  wpAny (model X.prog X.w) X.A (eval a X.env) (fun v s₁=>wpAny (model X.prog X.w) X.A (eval b X.env) (fun u s₂=>wpAny (model X.prog X.w) X.A (f v u) Q X.xe s₂) X.xe s₁) X.xe s:=by
 refine thn (ha pins s σ H _ I h) fun v s1 zz=>?_
 obtain ⟨x,H1,I1,r1,q1⟩:=zz
 refine thn (hb pins s1 σ H1 _ I1 q1) fun u s2 zz=>?_
 obtain ⟨y,H2,I2,r2,q2⟩:=zz
 exact hf v u s2 x y H2 I2 r1 r2 q2
theorem zJ {op:Operator} {r:R2} (ho:OpR X (binaryOp op) r) (ha:PE X a ta) (hb:PE X b tb):PE X (.BinOp a op b pos) (tOp r ta tb):=by
 intro pins s σ H Q I h
 exact wpAny_BinOp (binT ha hb I h fun v u s2 x y H2 I2 rx ry q=>ho pins s2 σ H2 x y v u Q I2 rx ry q)
theorem Z1 {op:UnaryOp} {r:V→Hp→VK→Prop} (ho:UnR X (unaryOp op) r) (ha:PE X a ta):PE X (.UnaryOp op a pos) (tUn r ta):=by
 intro pins s σ H Q I h
 exact UnaryOp_ (thn (ha pins s σ H _ I h) fun v s1 ⟨x,H1,I1,r1,q1⟩=>ho pins s1 σ H1 x v Q I1 r1 q1)
theorem opI {f:Value→Value→Sem Value} {C:Int→Int→Prop} {g:Int→Int→Int}
  (rule:∀(i j:Int) (t u:Tok) (s:Shared) (Q:Value→Shared→Prop) (E:Value→Shared→Prop),C i j→Q (.int (g i j) s.toks) { s with toks:=s.toks+1 }→wpAny (model X.prog X.w) X.A (f (.int i t) (.int j u)) Q E s):
  OpR X f (rI C fun i j=>.int (g i j)):=by
 intro pins s σ H x y v u Q I rx ry h
 obtain ⟨i,j,rfl,rfl,hc,q⟩:=h
 obtain ⟨t,rfl⟩:=rx
 obtain ⟨t',rfl⟩:=ry
 exact rule i j t t' s _ _ hc ⟨.int (g i j),H,I.tok _,⟨_,rfl⟩,q⟩
theorem opI0 {f:Value→Value→Sem Value} {g:Int→Int→Int}
  (rule:∀(i j:Int) (t u:Tok) (s:Shared) (Q:Value→Shared→Prop) (E:Value→Shared→Prop),Q (.int (g i j) s.toks) { s with toks:=s.toks+1 }→wpAny (model X.prog X.w) X.A (f (.int i t) (.int j u)) Q E s):
  OpR X f (rI0 fun i j=>.int (g i j)):=by
 intro pins s σ H x y v u Q I rx ry h
 obtain ⟨i,j,rfl,rfl,q⟩:=h
 obtain ⟨t,rfl⟩:=rx
 obtain ⟨t',rfl⟩:=ry
 exact rule i j t t' s _ _ ⟨.int (g i j),H,I.tok _,⟨_,rfl⟩,q⟩
theorem opB0 {f:Value→Value→Sem Value} {g:Int→Int→Bool}
  (rule:∀(i j:Int) (t u:Tok) (s:Shared) (Q:Value→Shared→Prop) (E:Value→Shared→Prop),Q (.bool (g i j)) s→wpAny (model X.prog X.w) X.A (f (.int i t) (.int j u)) Q E s):
  OpR X f (rI0 fun i j=>.bl (g i j)):=by
 intro pins s σ H x y v u Q I rx ry h
 obtain ⟨i,j,rfl,rfl,q⟩:=h
 obtain ⟨t,rfl⟩:=rx
 obtain ⟨t',rfl⟩:=ry
 exact rule i j t t' s _ _ ⟨.bl (g i j),H,I,rfl,q⟩
def CDiv (i j:Int):Prop:=0 < j∧j < 1073741824
def CPow (i j:Int):Prop:=0≤j∧j≤1000000∧i.natAbs < 2 ^ 64
def CMul (i j:Int):Prop:=(-(2 ^ 64) < i∧i < 2 ^ 64)∨(-(2 ^ 64) < j∧j < 2 ^ 64)
theorem CMul.ok {i j:Int} (h:CMul i j):IntMulOk i j:=by
 rcases h with ⟨h1,h2⟩ | ⟨h1,h2⟩
 ·exact .of_left (intBits_le_64 h1 h2)
 ·exact .of_right (intBits_le_64 h1 h2)
theorem qV:OpR X (binaryOp .Add) (rI0 fun i j=>.int (i+j)):=opI0 fun _ _ _ _ _ _ _ q=>add_int q
theorem qU:OpR X (binaryOp .Sub) (rI0 fun i j=>.int (i - j)):=opI0 fun _ _ _ _ _ _ _ q=>sub_int q
theorem J9:OpR X (binaryOp .Mult) (rI CMul fun i j=>.int (i * j)):=opI fun _ _ _ _ _ _ _ hc q=>mul_int q hc.ok
theorem QF:OpR X (binaryOp .FloorDiv) (rI CDiv fun i j=>.int (i / j)):=opI fun i j _ _ _ _ _ hc q=>by
 have h1:(0:Int) < j:=hc.1
 have h2:j < 1073741824:=hc.2
 exact floordiv_int (by lia) (by rw [Int.fdiv_eq_ediv_of_nonneg i (by lia)];exact q) (.inl (PyProof.noPylong_small (by lia)))
theorem QD:OpR X (binaryOp .Mod) (rI (fun _ j=>0 < j) fun i j=>.int (i % j)):=opI fun i j _ _ _ _ _ hc q=>by
 have h1:(0:Int) < j:=hc
 exact mod_int' (by lia) (by rw [Int.fmod_eq_emod_of_nonneg i (by lia)];exact q)
theorem z3c:OpR X (binaryOp .Mod) (rI (fun _ j=>j≠0) fun i j=>.int (i.fmod j)):=opI fun _ _ _ _ _ _ _ hc q=>mod_int' hc q
theorem z1J:OpR X (binaryOp .Pow) (rI CPow fun i j=>.int (i ^ j.toNat)):=opI fun _ _ _ _ _ _ _ hc q=>pow_int_small hc.1 hc.2.1 hc.2.2 q
theorem unI {f:Value→Sem Value} {g:Int→Int}
  (rule:∀(i:Int) (t:Tok) (s:Shared) (Q:Value→Shared→Prop) (E:Value→Shared→Prop),Q (.int (g i) s.toks) { s with toks:=s.toks+1 }→wpAny (model X.prog X.w) X.A (f (.int i t)) Q E s):
  UnR X f (rU fun i=>.int (g i)):=by
 intro pins s σ H x v Q I rx h
 obtain ⟨i,rfl,q⟩:=h
 obtain ⟨t,rfl⟩:=rx
 exact rule i t s _ _ ⟨.int (g i),H,I.tok _,⟨_,rfl⟩,q⟩
theorem jb:UnR X (unaryOp .USub) (rU fun i=>.int (-i)):=unI fun _ _ _ _ _ q=>neg_int q
end
noncomputable def scal:V→V→Bool
 | .non,.non=>true | .non,.int _=>true | .int _,.non=>true | .non,.bl _=>true | .bl _,.non=>true | .non,.str _=>true | .str _,.non=>true
 | .int _,.int _=>true | .bl _,.bl _=>true | .str _,.str _=>true | .byt _,.byt _=>true
 | .int _,.str _=>true | .str _,.int _=>true | .bl _,.str _=>true | .str _,.bl _=>true
 | _,_=>false
def rEq:R2:=fun x y H Q=>scal x y=true∧Q (.bl (decide (x=y))) H
def rNe:R2:=fun x y H Q=>scal x y=true∧Q (.bl (!decide (x=y))) H
theorem z3S {i j:Int}:decide (V.int i=V.int j)=(i == j):=by
 rw [Bool.eq_iff_iff]
 simp
theorem Jg {i j:Bool}:decide (V.bl i=V.bl j)=(i == j):=by
 rw [Bool.eq_iff_iff]
 simp
theorem z3R {i j:Str}:decide (V.str i=V.str j)=(i == j):=by
 rw [Bool.eq_iff_iff]
 simp
theorem z3T {i j:Array UInt8}:decide (V.byt i=V.byt j)=(i.toList == j.toList):=by
 rw [Bool.eq_iff_iff]
 cases i
 cases j
 simp
section
variable {X:Cx} {a b c:Expr} {ta tb tc:TE} {pos:Pos}
theorem zR {pins:List (Addr × Obj)} {σ:St} {H:Hp} {s:Shared} {Q:VK} {k k':Bool} (I:Inv X pins σ H s) (q:Q (.bl k) H) (e:k=k'):EP X pins σ Q (.bool k') s:=by
 subst e
 exact ⟨.bl k,H,I,rfl,q⟩
theorem zT:OpR X (compareOp .Eq) rEq:=by
 intro pins s σ H x y v u Q I rx ry h
 obtain ⟨hs,q⟩:=h
 cases x with
 | non=>
  cases rx
  cases y with
  | non=>cases ry;exact PySem.EqNone.eq_none_none (zR I q (by simp))
  | bl j=>cases ry;exact PySem.EqNone.eq_none_bool (zR I q (by simp))
  | int j=>obtain ⟨t',rfl⟩:=ry;exact PySem.EqNone.eq_none_int (zR I q (by simp))
  | str j=>obtain ⟨t',rfl⟩:=ry;exact PySem.EqNone.eq_none_str (zR I q (by simp))
  | _=>exact absurd (show false=true from hs) ka
 | bl i=>
  cases rx
  cases y with
  | non=>cases ry;exact PySem.EqNone.eq_bool_none (zR I q (by simp))
  | bl j=>cases ry;exact eq_bool (zR I q Jg)
  | str j=>obtain ⟨t',rfl⟩:=ry;exact PySem.EqMixed.eq_bool_str (zR I q (by simp))
  | _=>exact absurd (show false=true from hs) ka
 | int i=>
  obtain ⟨t,rfl⟩:=rx
  cases y with
  | non=>cases ry;exact PySem.EqNone.eq_int_none (zR I q (by simp))
  | int j=>obtain ⟨t',rfl⟩:=ry;exact eq_int (zR I q z3S)
  | str j=>obtain ⟨t',rfl⟩:=ry;exact PySem.EqMixed.eq_int_str (zR I q (by simp))
  | _=>exact absurd (show false=true from hs) ka
 | str i=>
  obtain ⟨t,rfl⟩:=rx
  cases y with
  | non=>cases ry;exact PySem.EqNone.eq_str_none (zR I q (by simp))
  | bl j=>cases ry;exact PySem.EqMixed.eq_str_bool (zR I q (by simp))
  | int j=>obtain ⟨t',rfl⟩:=ry;exact PySem.EqMixed.eq_str_int (zR I q (by simp))
  | str j=>obtain ⟨t',rfl⟩:=ry;exact eq_str (zR I q z3R)
  | _=>exact absurd (show false=true from hs) ka
 | byt i=>
  obtain ⟨t,rfl⟩:=rx
  cases y with
  | byt j=>obtain ⟨t',rfl⟩:=ry;exact PySem.W.eq_bytes (zR I q z3T)
  | _=>exact absurd (show false=true from hs) ka
 | _=>cases y <;> exact absurd (show false=true from hs) ka
theorem z6r:OpR X (compareOp .NotEq) rNe:=by
 intro pins s σ H x y v u Q I rx ry h
 obtain ⟨hs,q⟩:=h
 cases x with
 | non=>
  cases rx
  cases y with
  | non=>cases ry;exact PySem.EqNone.ne_none_none (zR I q (by simp))
  | bl j=>cases ry;exact PySem.EqNone.ne_none_bool (zR I q (by simp))
  | int j=>obtain ⟨t',rfl⟩:=ry;exact PySem.EqNone.ne_none_int (zR I q (by simp))
  | str j=>obtain ⟨t',rfl⟩:=ry;exact PySem.EqNone.ne_none_str (zR I q (by simp))
  | _=>exact absurd (show false=true from hs) ka
 | bl i=>
  cases rx
  cases y with
  | non=>cases ry;exact PySem.EqNone.ne_bool_none (zR I q (by simp))
  | bl j=>cases ry;exact ne_bool (zR I q (congrArg not Jg))
  | str j=>obtain ⟨t',rfl⟩:=ry;exact PySem.EqMixed.ne_bool_str (zR I q (by simp))
  | _=>exact absurd (show false=true from hs) ka
 | int i=>
  obtain ⟨t,rfl⟩:=rx
  cases y with
  | non=>cases ry;exact PySem.EqNone.ne_int_none (zR I q (by simp))
  | int j=>obtain ⟨t',rfl⟩:=ry;exact ne_int (zR I q (congrArg not z3S))
  | str j=>obtain ⟨t',rfl⟩:=ry;exact PySem.EqMixed.ne_int_str (zR I q (by simp))
  | _=>exact absurd (show false=true from hs) ka
 | str i=>
  obtain ⟨t,rfl⟩:=rx
  cases y with
  | non=>cases ry;exact PySem.EqNone.ne_str_none (zR I q (by simp))
  | bl j=>cases ry;exact PySem.EqMixed.ne_str_bool (zR I q (by simp))
  | int j=>obtain ⟨t',rfl⟩:=ry;exact PySem.EqMixed.ne_str_int (zR I q (by simp))
  | str j=>obtain ⟨t',rfl⟩:=ry;exact ne_str (zR I q (congrArg not z3R))
  | _=>exact absurd (show false=true from hs) ka
 | byt i=>
  obtain ⟨t,rfl⟩:=rx
  cases y with
  | byt j=>obtain ⟨t',rfl⟩:=ry;exact PySem.W.ne_bytes (zR I q (congrArg not z3T))
  | _=>exact absurd (show false=true from hs) ka
 | _=>cases y <;> exact absurd (show false=true from hs) ka
theorem Qj:OpR X (compareOp .Lt) (rI0 fun i j=>.bl (decide (i < j))):=opB0 fun _ _ _ _ _ _ _ q=>lt_int q
theorem z1b:OpR X (compareOp .LtE) (rI0 fun i j=>.bl (decide (i≤j))):=opB0 fun _ _ _ _ _ _ _ q=>le_int q
theorem z0l:OpR X (compareOp .Gt) (rI0 fun i j=>.bl (decide (j < i))):=opB0 fun _ _ _ _ _ _ _ q=>gt_int q
theorem z9u:OpR X (compareOp .GtE) (rI0 fun i j=>.bl (decide (j≤i))):=opB0 fun _ _ _ _ _ _ _ q=>ge_int q
theorem QE:OpR X (compareOp .Is) (fun x y H Q=>y=.non∧Q (.bl (decide (x=.non))) H):=by
 intro pins s σ H x y v u Q I rx ry h
 obtain ⟨rfl,q⟩:=h
 cases ry
 refine is_none_gen (zR I q ?_)
 cases x <;> first
  | (cases rx;rfl)
  | (obtain ⟨t,rfl⟩:=rx;rfl)
theorem Q4:OpR X (compareOp .IsNot) (fun x y H Q=>y=.non∧Q (.bl (!decide (x=.non))) H):=by
 intro pins s σ H x y v u Q I rx ry h
 obtain ⟨rfl,q⟩:=h
 cases ry
 refine isnot_none_gen (zR I q ?_)
 cases x <;> first
  | (cases rx;rfl)
  | (obtain ⟨t,rfl⟩:=rx;rfl)
theorem zn (b:Expr) {op:CmpOp} (h:autoParam (op≠.In) aR._auto_2) (h2:autoParam (op≠.NotIn) aR._auto_2):behindInMarks op b=false:=by
 have e1:(op == CmpOp.In)=false:=by cases op <;> first | rfl | exact absurd rfl h
 have e2:(op == CmpOp.NotIn)=false:=by cases op <;> first | rfl | exact absurd rfl h2
 cases b <;> simp [behindInMarks,e1,e2]
theorem qv {op:CmpOp} {r:R2} (ho:OpR X (compareOp op) r) (ha:PE X a ta) (hb:PE X b tb) (hm:behindInMarks op b=false):PE X (.Compare a [op] [b] pos) (tOp r ta tb):=by
 intro pins s σ H Q I h
 exact wpAny_Compare1 (binT ha hb I h fun v u s2 x y H2 I2 rx ry q=>ho pins s2 σ H2 x y v u Q I2 rx ry q) hm
def z8Y (t:TE):TT:=fun σ H Q=>t σ H fun x H'=>∃k,x=.bl k∧Q k H'
theorem zl {op:CmpOp} {r:R2} (ho:OpR X (compareOp op) r) (ha:PE X a ta) (hb:PE X b tb) (hm:behindInMarks op b=false):PT X (.Compare a [op] [b] pos) (z8Y (tOp r ta tb)):=by
 intro pins s σ H Q I h
 refine wpAny_isTrue_Compare1 (thn (ha pins s σ H _ I h) fun v s1 ⟨x,H1,I1,r1,q1⟩=>thn (hb pins s1 σ H1 _ I1 q1) fun u s2 ⟨y,H2,I2,r2,q2⟩=>
  thn (ho pins s2 σ H2 x y v u _ I2 r1 r2 q2) fun c s3 ⟨z,H3,I3,r3,k,e,q3⟩=>?_) hm
 subst e
 cases r3
 exact wpAny_truthy_bool ⟨H3,I3,q3⟩
def z7A (r r':R2) (ta tb tc:TE):TE:=fun σ H Q=>ta σ H fun x H1=>tb σ H1 fun y H2=>r x y H2 fun z H3=>∃k,z=.bl k∧
 (if k=true then tc σ H3 fun w' H4=>r' y w' H4 Q else Q (.bl false) H3)
theorem JA {op op':CmpOp} {r r':R2} (ho:OpR X (compareOp op) r) (ho':OpR X (compareOp op') r') (ha:PE X a ta) (hb:PE X b tb) (hc:PE X c tc)
  (hm:lastMarks [op,op'] [b,c]=false:=by with_unfolding_all rfl):PE X (.Compare a [op,op'] [b,c] pos) (z7A r r' ta tb tc):=by
 intro pins s σ H Q I h
 refine Compare_chain (thn (ha pins s σ H _ I h) fun v s1 ⟨x,H1,I1,r1,q1⟩=>chain_link (thn (hb pins s1 σ H1 _ I1 q1) fun u s2 ⟨y,H2,I2,r2,q2⟩=>
  thn (ho pins s2 σ H2 x y v u _ I2 r1 r2 q2) fun d s3 ⟨z,H3,I3,r3,k,e,q3⟩=>?_)) hm
 subst e
 cases r3
 refine wpAny_truthy_bool ?_
 cases k with
 | false=>exact ite_ff ⟨.bl false,H3,I3,rfl,q3⟩
 | true=>exact ite_tt (chain_last (thn (hc pins s3 σ H3 _ I3 q3) fun w' s4 ⟨z',H4,I4,r4,q4⟩=>ho' pins s4 σ H4 y z' u w' Q I4 r2 r4 q4))
def TruV (K:ky) (x:V) (H:Hp) (k:Bool):Prop:=
 match x with
 | .non=>k=false
 | .bl b=>k=b
 | .int i=>k=(i != 0)
 | .str y=>y.length≤sizeLine∧k=((y.length:Int) != 0)
 | .byt y=>y.size≤sizeLine∧k=((y.size:Int) != 0)
 | .ref p=>(∃xs,SqL K H p xs∧k= !xs.isEmpty)∨(∃xs,SqT K H p xs∧k= !xs.isEmpty)∨∃kvs,H p=some (.dK kvs)∧k= !kvs.isEmpty
 | _=>False
theorem z2p {κ:Type} {kvs:List (κ × V)} {vs:List (κ × Value)} (r:KV kvs vs):(!vs.isEmpty)= !kvs.isEmpty:=by
 cases r <;> rfl
theorem Jb {xs:List V} {its:List Value} (r:Vals xs its):(!its.toArray.isEmpty)= !xs.isEmpty:=by
 cases r <;> simp
theorem QL:(sizeLine:Nat) < 2 ^ 63:=by rw [sizeLine_eq];decide
theorem z7o:TruR X (fun x H Q=>∃k,TruV X.K x H k∧Q k H):=by
 intro pins s σ H x v Q I rx h
 obtain ⟨k,e,q⟩:=h
 have hl:=QL
 have hs:sizeLine=16777216:=sizeLine_eq
 cases x with
 | non=>
  cases rx
  have e':k=false:=e
  subst e'
  exact truthy_none ⟨H,I,q⟩
 | bl b=>
  cases rx
  have e':k=b:=e
  subst e'
  exact wpAny_truthy_bool ⟨H,I,q⟩
 | int i=>
  obtain ⟨t,rfl⟩:=rx
  have e':k=(i != 0):=e
  subst e'
  exact PySem.P.truthy_int ⟨H,I,q⟩
 | str y=>
  obtain ⟨t,rfl⟩:=rx
  obtain ⟨hy,e'⟩:y.length≤sizeLine∧k=((y.length:Int) != 0):=e
  subst e'
  exact PySem.P.truthy_str (by lia) ⟨H,I.tok _,q⟩
 | byt y=>
  obtain ⟨t,rfl⟩:=rx
  obtain ⟨hy,e'⟩:y.size≤sizeLine∧k=((y.size:Int) != 0):=e
  subst e'
  exact PySem.W.truthy_bytes (by lia) ⟨H,I.tok _,q⟩
 | ref p=>
  cases rx
  have e':(∃xs,SqL X.K H p xs∧k= !xs.isEmpty)∨(∃xs,SqT X.K H p xs∧k= !xs.isEmpty)∨∃kvs,H p=some (.dK kvs)∧k= !kvs.isEmpty:=e
  rcases e' with ⟨xs,hx,e'⟩ | ⟨xs,hx,e'⟩ | ⟨kvs,hx,e'⟩
  ·subst e'
   obtain ⟨its,r,pl,hz⟩:=I.list hx
   have hlen:=r.length
   exact wpAny_truthy_list pl.isList (by simp only [kG];lia) ⟨H,I.tok _,by rw [Jb r];exact q⟩
  ·subst e'
   obtain ⟨its,r,pl,hz⟩:=I.tuple hx
   have hlen:=r.length
   exact truthy_tuple pl (by simp only [kG];lia) ⟨H,I.tok _,by rw [Jb r];exact q⟩
  ·subst e'
   obtain ⟨hz,hS,vs,r,m⟩:kvs.length≤sizeLine∧(p == sysModules)=false∧∃vs,KV kvs vs∧s.heap.DictOf (qd X.prog X.w) p vs:=I.hok p _ hx
   have hlen:kvs.length=vs.length:=Paired.length r
   exact wpAny_truthy_dict hS m (by lia) ⟨H,I.tok _,by rw [z2p r];exact q⟩
 | _=>exact (show False from e).elim
theorem Qs (ha:PE X a ta) (he:∀whole,isTrue a X.env whole=(do let v ←whole;standAt a.pos;holding [v] (truthy v))):
  PT X a (fun σ H Q=>ta σ H fun x H'=>∃k,TruV X.K x H' k∧Q k H'):=by
 intro pins s σ H Q I h
 exact isTrue_plain (thn (ha pins s σ H _ I h) fun v s1 ⟨x,H1,I1,r1,q1⟩=>z7o pins s1 σ H1 x v Q I1 r1 q1) (he _)
theorem Jo {x:V} {us:List Value} (r:Vals [x] us):∃u,us=[u]∧RelV x u:=by
 cases r with
 | cons r1 r2=>cases r2;exact ⟨_,rfl,r1⟩
theorem z5V {x y:V} {us:List Value} (r:Vals [x,y] us):∃u w',us=[u,w']∧RelV x u∧RelV y w':=by
 cases r with
 | cons r1 r2=>
  cases r2 with
  | cons r3 r4=>cases r4;exact ⟨_,_,rfl,r1,r3⟩
theorem z1Z:ZY X (.builtin "abs") (fun xs H Q=>∃i,xs=[.int i]∧Q (.int (if i < 0 then -i else i)) H):=by
 intro pins s σ H xs us Q I r h
 obtain ⟨i,rfl,q⟩:=h
 obtain ⟨u,rfl,t,rfl⟩:=Jo r
 exact call_abs_int fun u tk=>⟨.int (if i < 0 then -i else i),H,I.tok _,⟨_,rfl⟩,q⟩
theorem z41 (hc:X.calm=true):ZY X (.builtin "max") (fun xs H Q=>∃i j,xs=[.int i,.int j]∧Q (.int (if j > i then j else i)) H):=by
 intro pins s σ H xs us Q I r h
 obtain ⟨i,j,rfl,q⟩:=h
 obtain ⟨u,w',rfl,⟨t,rfl⟩,⟨t',rfl⟩⟩:=z5V r
 refine max_two_ints (I.ok.hd hc) fun h' tk k=>⟨_,H,I.kept k,?_,q⟩
 by_cases hj:j > i
 ·rw [kC hj,kC hj];exact ⟨_,rfl⟩
 ·rw [kz hj,kz hj];exact ⟨_,rfl⟩
theorem z40 (hc:X.calm=true):ZY X (.builtin "min") (fun xs H Q=>∃i j,xs=[.int i,.int j]∧Q (.int (if j < i then j else i)) H):=by
 intro pins s σ H xs us Q I r h
 obtain ⟨i,j,rfl,q⟩:=h
 obtain ⟨u,w',rfl,⟨t,rfl⟩,⟨t',rfl⟩⟩:=z5V r
 refine min_two_ints (I.ok.hd hc) fun h' tk k=>⟨_,H,I.kept k,?_,q⟩
 by_cases hj:j < i
 ·rw [kC hj,kC hj];exact ⟨_,rfl⟩
 ·rw [kz hj,kz hj];exact ⟨_,rfl⟩
end
end L2
namespace L2
open PySem PySem.Spec PyProof.Rows
structure ObjM (h:Heap) (x dx C:Addr) (mA:Str→Option Value):Prop where
 obj:h.get? x=some (PySem.W.instObj C dx)
 ns:h.Ns1 dx mA
 ne:dx≠x
theorem z3p {h:Heap} {dx:Addr} {mA:Str→Option Value} (n:h.Ns1 dx mA):∃od,h.get? dx=some od∧∀name,PySem.W.lookIn name od=some (mA name):=by
 obtain ⟨o,es,ep,ho,hd,hk,_,hm⟩:=n
 refine ⟨o,ho,fun name=>?_⟩
 have e:=hm name
 unfold nsFind findBy at e
 rw [←Array.find?_toList] at e
 unfold PySem.W.lookIn
 rw [hd]
 dsimp only
 split
 ·rename_i y q
  rw [q] at e
  exact congrArg some e
 ·rename_i q
  rw [q] at e
  have a:es.toList.any (·.refKey)=false:=by
   rw [List.any_eq_false]
   intro y hy
   obtain ⟨z,t,hkey⟩:=hk y (Array.mem_toList_iff.mp hy)
   simp [DictEntry.refKey,hkey]
  have a':¬es.toList.any (·.refKey)=true:=by rw [a];exact ka
  rw [kz a']
  exact congrArg some e
theorem ObjM.look {h:Heap} {x dx C:Addr} {mA:Str→Option Value} (I:ObjM h x dx C mA):∃od,PySem.W.InstAt h x (PySem.W.instObj C dx) C (some od)∧∀name,PySem.W.lookIn name od=some (mA name):=
 let ⟨od,ho,hl⟩:=z3p I.ns
 ⟨od,⟨I.obj,rfl,rfl,ho⟩,hl⟩
section
variable {prog:Program} {w:World} {A:Around} {E:Value→Shared→Prop} {s:Shared} {K:ky} {x dx C f:Addr} {mA:Str→Option Value} {name:Str} {v:Value}
theorem z6D {expr:Bool} {Q:Value→Shared→Prop} (X:K.In s.heap) (I:ObjM s.heap x dx C mA) (hg:PySem.W.plainGet K C name=true) (hh:PySem.W.hasDictIn K C=true)
  (ha:PySem.W.findIn K (.ref C) name=some none) (hv:mA name=some v) (hv':PySem.W.handedIn v=true) (h:Q v { s with toks:=s.toks+1 }):
  wpAny (model prog w) A (getAttr (.ref x) name expr) Q E s:=by
 obtain ⟨od,J,hl⟩:=I.look
 exact PySem.W.get_value X J (PySem.W.plainGet_of hg).1 (PySem.W.findObj_own hh ha rfl (by rw [hl,hv])) hv' h
theorem z4M {pl:Sem Bool} {Q:Value × List Value→Shared→Prop} (X:K.In s.heap) (I:ObjM s.heap x dx C mA) (hg:PySem.W.plainGet K C name=true)
  (hf:PySem.W.findIn K (.ref C) name=some (some (.ref f))) (ht:PySem.W.isFn K (.ref f)=true) (hv:mA name=none) (h:Q (.ref f,[.ref x]) s):
  wpAny (model prog w) A (getMethod (.ref x) name pl) Q E s:=by
 obtain ⟨od,J,hl⟩:=I.look
 exact PySem.W.method_fn X J (PySem.W.plainGet_of hg).1 (PySem.W.plainGet_of hg).2 hf (beq_iff_eq.mp ht) (by show (PySem.W.lookIn name od).map (·.isSome)=some false;rw [hl,hv];rfl) h
theorem z6b {ns:List Str} {Q:Unit→Shared→Prop} (X:K.In s.heap) (I:ObjM s.heap x dx C mA)
  (hs:PySem.W.findIn K (.ref C) "__setattr__"=some (some (.builtin "object.__setattr__"))) (hp:PySem.W.plainOver K C=true) (ht:PySem.W.takerIn K C name=some none) (hh:PySem.W.hasDictIn K C=true)
  (hw:PySem.Within mA ns) (hsz:ns.length≤sizeLine)
  (h:∀h',ObjM h' x dx C (fun y=>if y=name then some v else mA y)→Heap.SameBut dx s.heap h'→Q () { s with heap:=h',toks:=s.toks+2 }):
  wpAny (model prog w) A (setAttr (.ref x) name v) Q E s:=by
 obtain ⟨od,J,hl⟩:=I.look
 refine PySem.W.set_plain X J hs (PySem.W.osa_open (s:={ s with toks:=s.toks+1 }) (r:=none) X J hp ht fun b=>?_)
 obtain ⟨cd,hc,hd'⟩:=PySem.W.any_some hh
 have hx:s.heap.get? x=some ⟨.ref C,some dx,.plain,#[]⟩:=I.obj
 refine wpAny_bind (wpAny_pure (wpAny_bind (wpAny_bind (wpAny_loadPart hx (wpAny_bind (PySem.W.Looks.here (s:={ s with toks:=s.toks+1 }) (PySem.W.looks_clsIn X hc) ?_))))))
 rw [hd']
 refine wpAny_pure (a:=some dx) (wpAny_bind (wpAny_pure (wpAny_bind ?_)))
 refine wpAny_nsSet1 (s:={ s with toks:=s.toks+1 }) I.ns fun h' hn2 hs2=>?_
 obtain ⟨oD,esD,epD,hoD,hdD,hcD⟩:=hn2.count (PySem.Within.cons name v hw)
 refine wpAny_bind (wpAny_lookBehind hoD (by rw [hdD];exact pastItsLine_dict (ku hcD (by rw [kQ];lia))) ?_)
 exact wpAny_pure (h _ ⟨(hs2.2 _ (Ne.symm I.ne)).trans I.obj,hn2,I.ne⟩ hs2)
theorem z4C {R:Result→Shared→Prop} {vs:List Value} {kw:List (Str × Value)} (X:K.In s.heap) (hm:PySem.W.makesIn K C=true)
  (hi:PySem.W.findIn K (.ref C) "__init__"=some (some (.ref f))) (hf:PySem.W.typeIn K (.ref f)=some (.type "function"))
  (h:codeAny (model prog w) (A.under (.builtin "type.__call__" ⟨.ref C :: vs,kw⟩)) (.call (.ref f) ⟨.ref (s.heap.objs.size+1) :: vs,kw⟩) (PySem.W.InitBack (s.heap.objs.size+1) R)
   { s with heap:=(s.heap.push PySem.W.emptyDict).push (PySem.W.instObj C s.heap.objs.size) }):
  codeAny (model prog w) A (.call (.ref C) ⟨vs,kw⟩) R s:=by
 obtain ⟨hh,g,d,t,os⟩:=s
 exact PySem.W.make_core (PySem.W.makes_of X hm) (PySem.W.looks_findIn X hi) (fun self=>PySem.W.bind_fn X self hf) (.inl rfl) h
end
noncomputable def putF (f:Str) (v:V):List (Str × V)→List (Str × V)
 | []=>[(f,v)]
 | (g,x) :: r=>if g=f then (g,v) :: r else (g,x) :: putF f v r
theorem QK (f g:Str) (v:V):∀fs:List (Str × V),(putF f v fs).lookup g=if g=f then some v else fs.lookup g
 | []=>by
  show List.lookup g [(f,v)]=_
  by_cases h:g=f
  ·have hb:(g == f)=true:=beq_iff_eq.mpr h
   simp only [List.lookup,hb,kC h]
  ·have hb:(g == f)=false:=beq_eq_false_iff_ne.mpr h
   simp only [List.lookup,hb,kz h]
 | (k,x) :: r=>by
  have ih:=QK f g v r
  rw [show putF f v ((k,x) :: r)=(if k=f then (k,v) :: r else (k,x) :: putF f v r) from rfl]
  by_cases hk:k=f
  ·rw [kC hk]
   by_cases h:g=k
   ·have hb:(g == k)=true:=beq_iff_eq.mpr h
    simp only [List.lookup,hb,kC (h.trans hk)]
   ·have hb:(g == k)=false:=beq_eq_false_iff_ne.mpr h
    simp only [List.lookup,hb,kz (fun e:g=f=>h (e.trans hk.symm))]
  ·rw [kz hk]
   by_cases h:g=k
   ·have hb:(g == k)=true:=beq_iff_eq.mpr h
    simp only [List.lookup,hb,kz (fun e:g=f=>hk (h.symm.trans e))]
   ·have hb:(g == k)=false:=beq_eq_false_iff_ne.mpr h
    simp only [List.lookup,hb]
    exact ih
theorem QO (f:Str) (v:V):∀fs:List (Str × V),f∈(putF f v fs).map (·.1)∧∀g,g∈fs.map (·.1)→g∈(putF f v fs).map (·.1)
 | []=>⟨by simp [putF],fun g h=>by simp at h⟩
 | (k,x) :: r=>by
  obtain ⟨i1,i2⟩:=QO f v r
  rw [show putF f v ((k,x) :: r)=(if k=f then (k,v) :: r else (k,x) :: putF f v r) from rfl]
  by_cases hk:k=f
  ·rw [kC hk]
   subst hk
   exact ⟨by simp,fun g h=>by simpa using h⟩
  ·rw [kz hk]
   refine ⟨?_,fun g h=>?_⟩
   ·rw [kX]
    exact kS _ i1
   ·rw [kX] at h ⊢
    rcases kF.mp h with e | e
    ·exact kF.mpr (.inl e)
    ·exact kS _ (i2 g e)
theorem QM (f:Str) (v:V):∀fs:List (Str × V),(putF f v fs).length≤fs.length+1
 | []=>by simp [putF]
 | (k,x) :: r=>by
  have ih:=QM f v r
  rw [show putF f v ((k,x) :: r)=(if k=f then (k,v) :: r else (k,x) :: putF f v r) from rfl]
  by_cases hk:k=f
  ·rw [kC hk,kQ,kQ];lia
  ·rw [kz hk,kQ,kQ];lia
theorem RelO.some_of {v:V} {o:Option Value} (r:RelO (some v) o):∃u,o=some u∧RelV v u:=by
 cases o with
 | none=>exact (show False from r).elim
 | some u=>exact ⟨u,rfl,r⟩
theorem RelO.none_of {o:Option Value} (r:RelO none o):o=none:=by
 cases o with
 | none=>rfl
 | some u=>exact (show False from r).elim
theorem z3z {v:V} {u:Value} (r:RelV v u):PySem.W.handedIn u=true:=by
 cases v with
 | non=>cases (show u=Value.none from r);rfl
 | bl b=>cases (show u=Value.bool b from r);rfl
 | int i=>obtain ⟨t,e⟩:=(show ∃t,u=Value.int i t from r);cases e;rfl
 | str x=>obtain ⟨t,e⟩:=(show ∃t,u=Value.str x t from r);cases e;rfl
 | byt b=>obtain ⟨t,e⟩:=(show ∃t,u=Value.bytes b t from r);cases e;rfl
 | flt b=>obtain ⟨t,e⟩:=(show ∃t,u=Value.float b t from r);cases e;rfl
 | ref a=>cases (show u=Value.ref a from r);rfl
 | ty n=>cases (show u=Value.type n from r);rfl
section
variable {P:Program} {w:World} {H H':Hp} {h h':Heap} {a C dx:Addr} {fs fs':List (Str × V)}
theorem JN (hok:HOk P w H h) (e:H a=some (.ins C dx fs)):∃mA,ObjM h a dx C mA∧(∀f,RelO (fs.lookup f) (mA f))∧PySem.Within mA (fs.map (·.1))∧fs.length≤1000∧H dx=some (.own a):=by
 obtain ⟨d,z,ne,ob,mA,n,r,q⟩:=(show qL P w H h a (.ins C dx fs) from hok a _ e)
 exact ⟨mA,⟨ob,n,ne⟩,r,q,z,d⟩
end
structure Cls (K:ky) (C:Addr):Prop where
 pg:PySem.W.plainGet K C Str.empty=true
 hd:PySem.W.hasDictIn K C=true
 po:PySem.W.plainOver K C=true
 sa:PySem.W.findIn K (.ref C) "__setattr__"=some (some (.builtin "object.__setattr__"))
theorem Cls.get {K:ky} {C:Addr} (c:Cls K C) (f:Str):PySem.W.plainGet K C f=true:=c.pg
def jq (K:ky) (C:Addr) (f:Str):Prop:=PySem.W.findIn K (.ref C) f=some none
theorem jq.taker {K:ky} {C:Addr} {f:Str} (n:jq K C f):PySem.W.takerIn K C f=some none:=by
 unfold PySem.W.takerIn
 rw [show PySem.W.findIn K (.ref C) f=some none from n]
 rfl
structure Meth (K:ky) (C:Addr) (m:Str) (f:Addr):Prop where
 at_:PySem.W.findIn K (.ref C) m=some (some (.ref f))
 fn:PySem.W.isFn K (.ref f)=true
 kp:PySem.W.keepIn K (.ref f)=true
section
variable {X:Cx} {pins:List (Addr × Obj)} {σ:St} {H:Hp} {s:Shared} {a C dx:Addr} {fs:List (Str × V)} {f:Str} {v:V} {A:Around} {E:Value→Shared→Prop}
theorem z2s {b:Bool} {Q:Value→Shared→Prop} (I:Inv X pins σ H s) (e:H a=some (.ins C dx fs)) (c:Cls X.K C) (n:jq X.K C f) (l:fs.lookup f=some v)
  (h:∀u s',Inv X pins σ H s'→RelV v u→Q u s'):wpAny (model X.prog X.w) A (getAttr (.ref a) f b) Q E s:=by
 obtain ⟨mA,O,r,_,_,_⟩:=JN I.hok e
 obtain ⟨u,hu,ru⟩:=RelO.some_of (v:=v) (o:=mA f) (by rw [←l];exact r f)
 exact z6D I.kIn O (c.get f) c.hd n hu (z3z ru) (h u _ (I.tok _) ru)
theorem Jc {m:Str} {g:Addr} {pl:Sem Bool} {Q:Value × List Value→Shared→Prop} (I:Inv X pins σ H s) (e:H a=some (.ins C dx fs)) (c:Cls X.K C) (k:Meth X.K C m g) (l:fs.lookup m=none)
  (h:Q (.ref g,[.ref a]) s):wpAny (model X.prog X.w) A (getMethod (.ref a) m pl) Q E s:=by
 obtain ⟨mA,O,r,_,_,_⟩:=JN I.hok e
 have hn:mA m=none:=RelO.none_of (by rw [←l];exact r m)
 exact z4M I.kIn O (c.get m) k.at_ k.fn hn h
theorem z28 {y:V} {u:Value} {Q:Unit→Shared→Prop} (I:Inv X pins σ H s) (e:H a=some (.ins C dx fs)) (c:Cls X.K C) (n:jq X.K C f) (hl:fs.length < 1000) (ry:RelV y u)
  (h:∀s',Inv X pins σ (upd H a (.ins C dx (putF f y fs))) s'→Q () s'):wpAny (model X.prog X.w) A (setAttr (.ref a) f u) Q E s:=by
 obtain ⟨mA,O,r,wi,_,ho⟩:=JN I.hok e
 have hz:(fs.map (·.1)).length≤sizeLine:=by rw [kj,sizeLine_eq];lia
 refine z6b I.kIn O c.sa c.po n.taker c.hd wi hz fun h' O' sb=>h _ ?_
 have hd:∃o,h'.get? dx=some o:=let ⟨o,_,_,e',_⟩:=O'.ns;⟨o,e'⟩
 refine I.write (x:=a) (e:=dx) (by rw [e];exact True.intro) (.inr ho) (fun b q hb z=>(sb.2 b hb).trans z) hd ?_
 refine ⟨by rw [zf O.ne];exact ho,?_,O.ne,O'.obj,_,O'.ns,fun g=>?_,fun g hg=>?_⟩
 ·have:=QM f y fs;lia
 ·show RelO ((putF f y fs).lookup g) (if g=f then some u else mA g)
  rw [QK]
  by_cases q:g=f
  ·rw [kC q,kC q];exact ry
  ·rw [kz q,kz q];exact r g
 ·by_cases q:g=f
  ·rw [q];exact (QO f y fs).1
  ·refine (QO f y fs).2 g (wi g fun z=>hg ?_)
   show (if g=f then some u else mA g)=none
   rw [kz q];exact z
theorem Inv.made (I:Inv X pins σ H s):Inv X pins σ (upd (upd H s.heap.objs.size (.own (s.heap.objs.size+1))) (s.heap.objs.size+1) (.ins C s.heap.objs.size []))
  { s with heap:=(s.heap.push PySem.W.emptyDict).push (PySem.W.instObj C s.heap.objs.size) }:=by
 have e1:(s.heap.push PySem.W.emptyDict).get? s.heap.objs.size=some PySem.W.emptyDict:=Heap.get?_push_size s.heap rfl
 have e2:((s.heap.push PySem.W.emptyDict).push (PySem.W.instObj C s.heap.objs.size)).get? (s.heap.objs.size+1)=some (PySem.W.instObj C s.heap.objs.size):=by
  have:=Heap.get?_push_size (s.heap.push PySem.W.emptyDict) (o:=PySem.W.instObj C s.heap.objs.size) rfl
  rwa [Heap.size_push] at this
 have e3:(s.heap.push PySem.W.emptyDict).Ns s.heap.objs.size (fun _=>none):=⟨PySem.W.emptyDict,#[],_,e1,rfl,(fun e he=>absurd he (by simp)),fun _=>rfl⟩
 have I1:=I.laid (a:=s.heap.objs.size) (o:=.own (s.heap.objs.size+1)) (h':=s.heap.push PySem.W.emptyDict) (t':=s.toks) (fun b u q=>Heap.get?_push_of_some _ q) (ke _) ⟨_,e1⟩
 refine I1.laid (a:=s.heap.objs.size+1) (o:=.ins C s.heap.objs.size []) (t':=s.toks) (fun b u q=>Heap.get?_push_of_some _ q) (ya (Heap.size_push _ _)) ?_
 have ne:s.heap.objs.size≠s.heap.objs.size+1:=Nat.ne_of_lt (yd _)
 refine ⟨by rw [zf ne,zb],Nat.zero_le _,ne,e2,fun _=>none,(Heap.Ns1.of_empty e3).at fun o q=>Heap.get?_push_of_some _ q,fun _=>True.intro,fun y hy=>absurd rfl hy⟩
theorem z7i {prog:Program} {w:World} {env:Env} {e:Expr} {f:Str} {pos:Pos} {s:Shared} {Q:Value→Shared→Prop} (hb:attributeBase e f env (eval e env)=eval e env)
  (h:wpAny (model prog w) A (eval e env) (fun o s₁=>wpAny (model prog w) A (getAttr o f true) Q E s₁) E s):wpAny (model prog w) A (eval (.Attribute e f pos) env) Q E s:=
 Attribute_any_ h (by rw [arm_eval_Attribute,hb])
end
def tFld (K:ky) (ta:TE) (f:Str):TE:=fun σ H Q=>ta σ H fun x H1=>∃a C dx fs v,x=.ref a∧H1 a=some (.ins C dx fs)∧Cls K C∧jq K C f∧fs.lookup f=some v∧Q v H1
def sFld (K:ky) (ta tv:TE) (f:Str):TS:=fun D σ H=>tv σ H fun y H1=>ta σ H1 fun x H2=>∃a C dx fs,x=.ref a∧H2 a=some (.ins C dx fs)∧Cls K C∧jq K C f∧fs.length < 1000∧
 D.nx σ (upd H2 a (.ins C dx (putF f y fs)))
section
variable {X:Cx} {o e value:Expr} {f:Str} {pos pos' tpos:Pos} {ta tv:TE}
theorem zI (he:PE X e ta) (hb:attributeBase e f X.env (eval e X.env)=eval e X.env):PE X (.Attribute e f pos) (tFld X.K ta f):=by
 intro pins s σ H Q I h
 refine z7i hb (thn (he pins s σ H _ I h) fun u s1 zz=>?_)
 obtain ⟨x,H1,I1,rx,a,C,dx,fs,v,ex,ea,c,n,l,q⟩:=zz
 subst ex
 obtain rfl:u=Value.ref a:=rx
 exact z2s I1 ea c n l fun u' s2 I2 ru=>⟨v,H1,I2,ru,q⟩
theorem jp (ha:PE X o ta) (hv:PE X value tv) (hs:swapsWith value (some (.Attribute o f pos')) pos.line X.env=pure false):PS X (.Assign [.Attribute o f pos'] value pos) (sFld X.K ta tv f):=by
 intro pins s σ H D I h
 refine plainObj_wpAny_Assign_Attribute (thn (hv pins s σ H _ I h) fun u s1 ⟨y,H1,I1,ry,q⟩=>thn (ha pins s1 σ H1 _ I1 q) fun ov s2 ⟨x,H2,I2,rx,a,C,dx,fs,ex,ea,c,n,l,q2⟩=>?_) hs
 subst ex
 obtain rfl:ov=Value.ref a:=rx
 exact z28 I2 ea c n l ry fun s3 I3=>⟨σ,_,I3,q2⟩
end
section
variable {X:Cx} {pins:List (Addr × Obj)} {σ:St} {H:Hp} {s:Shared} {A:Around} {E:Value→Shared→Prop} {Q:Value→Shared→Prop} {c:Value} {b:Bool}
inductive TyOf (K:ky) (H:Hp):V→Value→Prop where
 | non:TyOf K H .non (.type "NoneType")
 | bl (x:Bool):TyOf K H (.bl x) (.type "bool")
 | int (i:Int):TyOf K H (.int i) (.type "int")
 | str (x:Str):TyOf K H (.str x) (.type "str")
 | flt (x:UInt64):TyOf K H (.flt x) (.type "float")
 | lst {a:Addr} {xs:List V} (e:H a=some (.lst xs)):TyOf K H (.ref a) (.type "list")
 | frz {a:Addr} {o:Obj} {xs:List V} (e:H a=some (.frz o (.lst xs))):TyOf K H (.ref a) (.type "list")
 | tup {a:Addr} {xs:List V} (e:H a=some (.tup xs)):TyOf K H (.ref a) (.type "tuple")
 | dK {a:Addr} {kvs:List (Key × V)} (e:H a=some (.dK kvs)):TyOf K H (.ref a) (.type "dict")
 | dT {a:Addr} {kvs:List (List Key × V)} (e:H a=some (.dT kvs)):TyOf K H (.ref a) (.type "dict")
 | ins {a C dx:Addr} {fs:List (Str × V)} (e:H a=some (.ins C dx fs)) (cl:Cls K C) (ha:PySem.W.findIn K (.ref C) "__class__"=some (some (.builtin "object.__class__")))
   (hn:PySem.W.specialIn K (.builtin "object.__class__") "__get__"=some (some (.builtin "getset_descriptor.__get__"))) (htk:PySem.W.takesIn K (.builtin "object.__class__")=some true)
   (hm:PySem.W.mroIn K C (.type "object")=some true):TyOf K H (.ref a) (.ref C)
theorem z3v {x:V} {u t:Value} (I:Inv X pins σ H s) (rx:RelV x u) (ty:TyOf X.K H x t) (e:PySem.W.kitOne X.K t c=some b) (h:∀tk,Q (.bool b) { s with toks:=tk }):
  wpAny (model X.prog X.w) A (call (.builtin "isinstance") [u,c]) Q E s:=by
 cases ty with
 | non=>cases (show u=Value.none from rx);exact PySem.W.kia_one PySem.W.kitx_none I.kIn True.intro e (fun z=>nomatch z) h
 | bl y=>cases (show u=Value.bool y from rx);exact PySem.W.kia_one PySem.W.kitx_bool I.kIn True.intro e (fun z=>nomatch z) h
 | int i=>obtain ⟨t,q⟩:=(show ∃t,u=Value.int i t from rx);cases q;exact PySem.W.kia_one PySem.W.kitx_int I.kIn True.intro e (fun z=>nomatch z) h
 | str y=>obtain ⟨t,q⟩:=(show ∃t,u=Value.str y t from rx);cases q;exact PySem.W.kia_one PySem.W.kitx_str I.kIn True.intro e (fun z=>nomatch z) h
 | flt y=>obtain ⟨t,q⟩:=(show ∃t,u=Value.float y t from rx);cases q;exact PySem.W.kia_one PySem.W.kitx_float I.kIn True.intro e (fun z=>nomatch z) h
 | @lst a xs ea=>
  cases (show u=Value.ref a from rx)
  obtain ⟨_,_,n,_,h1⟩:=(show qL X.prog X.w H s.heap a (.lst xs) from I.hok a _ ea)
  exact PySem.W.kia_one PySem.W.kitx_list I.kIn ⟨_,h1,rfl⟩ e (fun z=>nomatch z) h
 | @frz a ob xs ea=>
  cases (show u=Value.ref a from rx)
  obtain ⟨_,_,_,n,_,h1⟩:=(show qL X.prog X.w H s.heap a (.frz ob (.lst xs)) from I.hok a _ ea)
  exact PySem.W.kia_one PySem.W.kitx_list I.kIn ⟨_,h1,rfl⟩ e (fun z=>nomatch z) h
 | @tup a xs ea=>
  cases (show u=Value.ref a from rx)
  obtain ⟨_,_,_,p⟩:=(show qL X.prog X.w H s.heap a (.tup xs) from I.hok a _ ea)
  obtain ⟨o,h1,h2,_⟩:=p
  exact PySem.W.kia_one PySem.W.kitx_tuple I.kIn ⟨o,h1,h2⟩ e (fun z=>nomatch z) h
 | @dK a kvs ea=>
  cases (show u=Value.ref a from rx)
  obtain ⟨_,_,vs,_,p⟩:=(show qL X.prog X.w H s.heap a (.dK kvs) from I.hok a _ ea)
  obtain ⟨o,es,ep,h1,h2,_⟩:=p
  exact PySem.W.kia_one PySem.W.kitx_dict I.kIn ⟨o,h1,h2.1⟩ e (fun z=>nomatch z) h
 | @dT a kvs ea=>
  cases (show u=Value.ref a from rx)
  obtain ⟨_,_,xs,_,o,es,ep,h1,h2,_⟩:=(show qL X.prog X.w H s.heap a (.dT kvs) from I.hok a _ ea)
  exact PySem.W.kia_one PySem.W.kitx_dict I.kIn ⟨o,h1,h2.1⟩ e (fun z=>nomatch z) h
 | @ins a C dx fs ea cl ha hn htk hm=>
  cases (show u=Value.ref a from rx)
  obtain ⟨mA,O,_⟩:=JN I.hok ea
  obtain ⟨od,J,_⟩:=O.look
  exact PySem.W.kia_one (PySem.W.kitx_own (cl.get _) cl.hd ha hn htk hm) I.kIn J e (fun z=>nomatch z) h
end
end L2
namespace L2
open PySem PySem.Spec PyProof.Rows
structure Room (k:Nat) (A:Around):Prop where
 hd:A.handled=none
 dp:A.depth+3 * k+5 < recursionLimit
 un:A.units+16 * k+200 < cLine
 gd:A.guards=some []
theorem Room.mono {j k:Nat} {A:Around} (r:Room k A) (h:j≤k):Room j A:=⟨r.hd,by have:=r.dp;lia,by have:=r.un;lia,r.gd⟩
theorem Room.deeper {k:Nat} {A:Around} (r:Room (k+1) A) (env:Env):Room k (A.deeper env):=
 ⟨r.hd,by have:=r.dp;show A.depth+1+3 * k+5 < _;lia,by have:=r.un;show A.units+3+16 * k+200 < _;lia,r.gd⟩
theorem Room.in1 {k:Nat} {A:Around} (r:Room (k+1) A):Room k A.in1:=
 ⟨r.hd,by have:=r.dp;show A.depth+3 * k+5 < _;lia,by have:=r.un;show A.units+1+16 * k+200 < _;lia,r.gd⟩
theorem z2m {A:Around} {C:Addr} {us:List Value} {kw:List (Str × Value)}:(A.under (.builtin "type.__call__" ⟨.ref C :: us,kw⟩)).depth=A.depth+1:=by
 first | rfl | simp [Around.under,Code.weight,Code.isCreation,Code.isGuard,Code.isCaller,Code.frames,Code.isFrame,guardIds]
theorem z2l {A:Around} {C:Addr} {us:List Value} {kw:List (Str × Value)}:(A.under (.builtin "type.__call__" ⟨.ref C :: us,kw⟩)).units=A.units+1:=by
 first | rfl | simp [Around.under,Code.cUnits,Code.frames,Code.isFrame]
theorem z1f {A:Around} {C:Addr} {us:List Value} {kw:List (Str × Value)}:(A.under (.builtin "type.__call__" ⟨.ref C :: us,kw⟩)).guards=A.guards:=by
 first | rfl | simp [Around.under,Code.isGuard,guardIds,pushGuard]
theorem Room.make {k:Nat} {A:Around} (r:Room (k+1) A) (C:Addr) (us:List Value) (kw:List (Str × Value)):Room k (A.under (.builtin "type.__call__" ⟨.ref C :: us,kw⟩)):=
 ⟨r.hd,by have:=r.dp;rw [z2m];lia,by have:=r.un;rw [z2l];lia,by rw [z1f];exact r.gd⟩
theorem Room.depth {k:Nat} {A:Around} (r:Room k A):A.depth < recursionLimit:=by have:=r.dp;lia
theorem Room.units {k:Nat} {A:Around} (r:Room k A):A.units+64 < cLine:=by have:=r.un;lia
theorem Room.units0 {k:Nat} {A:Around} (r:Room k A):A.units < cLine:=by have:=r.un;lia
abbrev tNil:TA:=fun _ H Q=>Q [] H
abbrev jr (ta:TE) (tr:TA):TA:=fun σ H Q=>ta σ H fun x H1=>tr σ H1 fun xs H2=>Q (x :: xs) H2
section
variable {X:Cx} {e:Expr} {es:List Expr} {te:TE} {t:TA} {pos:Pos}
theorem z7:PA X [] tNil:=fun _ _ _ _ H Q I h=>Calls.spliced_nil ⟨[],H,I,.nil,h⟩
theorem z6 (ha:PE X e te) (hr:PA X es t) (hs:autoParam (starEach (e :: es) X.env=(false,eval e X.env) :: starEach es X.env) aR._auto_1):PA X (e :: es) (jr te t):=by
 intro pos pins s σ H Q I h
 rw [hs]
 show wpAny _ _ (spliced ((false,eval e X.env) :: backTo pos (starEach es X.env))) _ _ s
 refine Calls.spliced_cons (thn (ha pins s σ H _ I h) fun u s1 zz=>?_)
 obtain ⟨x,H1,I1,r1,q1⟩:=zz
 exact thn (hr pos pins s1 σ H1 _ I1 q1) fun us s2 ⟨xs,H2,I2,r2,q2⟩=>⟨x :: xs,H2,I2,.cons r1 r2,q2⟩
def tTup (t:TA):TE:=fun σ H Q=>t σ H fun xs H1=>xs.length≤sizeLine∧∀p,H1 p=none→Q (.ref p) (upd H1 p (.tup xs))
def tLst (t:TA):TE:=fun σ H Q=>t σ H fun xs H1=>xs.length≤sizeLine∧∀p,H1 p=none→Q (.ref p) (upd H1 p (.lst xs))
theorem zE {x1} (h:PA X es t):PE X (.Tuple es x1 pos) (tTup t):=by
 intro pins s σ H Q I hq
 refine wpAny_Tuple_spliced (thn (h pos pins s σ H _ I hq) fun us s1 ⟨xs,H1,I1,r,z,q⟩=>⟨by rw [←r.length];exact z,?_⟩)
 have hf:H1 s1.heap.objs.size=none:=I1.hok.fresh (ke _)
 refine ⟨.ref s1.heap.objs.size,upd H1 s1.heap.objs.size (.tup xs),I1.laid (t':=s1.toks) (fun b u e=>Heap.get?_push_of_some _ e) (ke _) ?_,rfl,q _ hf⟩
 exact ⟨z,us,r,⟨_,Heap.get?_push_size _ rfl,rfl,_,rfl⟩⟩
theorem qu (h:PA X es t):PE X (.List es pos) (tLst t):=by
 intro pins s σ H Q I hq
 refine wpAny_List_spliced (thn (h pos pins s σ H _ I hq) fun us s1 ⟨xs,H1,I1,r,z,q⟩=>⟨by rw [←r.length];exact z,?_⟩)
 have hf:H1 s1.heap.objs.size=none:=I1.hok.fresh (ke _)
 refine ⟨.ref s1.heap.objs.size,upd H1 s1.heap.objs.size (.lst xs),I1.laid (t':=s1.toks) (fun b u e=>Heap.get?_push_of_some _ e) (ke _) ?_,rfl,q _ hf⟩
 exact ⟨z,us,0,r,Heap.get?_push_size _ rfl⟩
end
abbrev Sp:=List V→Hp→VK→XK→Prop
abbrev CXT:=List Env→Hp→Shared→XK→Value→Shared→Prop
structure Env0 (P:Program) (w:World) (K:ky) (mg:Str→Option Value) (base:Heap) (A:Around) (outer:List Env) (s:Shared) (H:Hp):Prop where
 frames:A.frames=some outer
 mod:Mod K mg base
 bs:∀b o,base.get? b=some o→s.heap.get? b=some o∧H b=none
 bsz:base.objs.size≤s.heap.objs.size
 funs:s.heap.FunFrames base outer
 frf:∀b∈frs outer,H b=none
 hok:HOk P w H s.heap
 bare:AllBare s.gens
def CE (outer:List Env) (P:Program) (w:World) (H:Hp) (s:Shared) (Q:VK) (u:Value) (s':Shared):Prop:=
 ∃v H',s'.os=s.os∧AllBare s'.gens∧Un (frs outer) [] H H' s.heap s'.heap∧HOk P w H' s'.heap∧RelV v u∧Q v H'
def CR (CX:CXT) (outer:List Env) (P:Program) (w:World) (H:Hp) (s:Shared) (Q:VK) (E:XK) (r:Result) (s':Shared):Prop:=
 match r with
 | .ok (.ret u)=>CE outer P w H s Q u s'
 | .ok _=>False
 | .error e=>CX outer H s E e s'
structure FnOk (P:Program) (w:World) (K:ky) (mg:Str→Option Value) (base:Heap) (CX:CXT) (k:Nat) (f:Addr) (fd:FuncData) (ps:List Str) (sp:Sp):Prop where
 len:∀vs H Q E,sp vs H Q E→vs.length=ps.length
 run:∀(A:Around) (outer:List Env) (s:Shared) (H:Hp) (args:Args) (us:List Value) (vs:List V) (Q:VK) (E:XK),Room k A→Env0 P w K mg base A outer s H→BindsTo s fd args (ps.zip us)→Vals vs us→sp vs H Q E→
  codeAny (model P w) A (.call (.ref f) args) (CR CX outer P w H s Q E) s
theorem FnOk.mono {P:Program} {w:World} {K:ky} {mg:Str→Option Value} {base:Heap} {CX:CXT} {j k:Nat} {f:Addr} {fd:FuncData} {ps:List Str} {sp:Sp} (F:FnOk P w K mg base CX j f fd ps sp) (h:j≤k):
  FnOk P w K mg base CX k f fd ps sp:=⟨F.len,fun A outer s H args us vs Q E hr=>F.run A outer s H args us vs Q E (hr.mono h)⟩
theorem FnOk.imp {P:Program} {w:World} {K:ky} {mg:Str→Option Value} {base:Heap} {CX:CXT} {k:Nat} {f:Addr} {fd:FuncData} {ps:List Str} {sp sp':Sp} (F:FnOk P w K mg base CX k f fd ps sp)
  (h:∀vs H Q E,sp' vs H Q E→sp vs H Q E):FnOk P w K mg base CX k f fd ps sp':=
 ⟨fun vs H Q E q=>F.len vs H Q E (h _ _ _ _ q),fun A outer s H args us vs Q E hr he hb hv hs=>F.run A outer s H args us vs Q E hr he hb hv (h _ _ _ _ hs)⟩
theorem Env0.make {P:Program} {w:World} {K:ky} {mg:Str→Option Value} {base:Heap} {A:Around} {outer:List Env} {s:Shared} {H:Hp} (e:Env0 P w K mg base A outer s H) (C:Addr) (us:List Value) (kw:List (Str × Value)):
  Env0 P w K mg base (A.under (.builtin "type.__call__" ⟨.ref C :: us,kw⟩)) outer s H:=⟨by first | exact e.frames | (simpa [Around.under,Code.envs,Code.isFrame,pushEnvs] using e.frames),e.mod,e.bs,e.bsz,e.funs,e.frf,e.hok,e.bare⟩
theorem Env0.in1 {P:Program} {w:World} {K:ky} {mg:Str→Option Value} {base:Heap} {A:Around} {outer:List Env} {s:Shared} {H:Hp} (e:Env0 P w K mg base A outer s H):
  Env0 P w K mg base A.in1 outer s H:=⟨e.frames,e.mod,e.bs,e.bsz,e.funs,e.frf,e.hok,e.bare⟩
section
variable {X:Cx} {pins:List (Addr × Obj)} {σ:St} {H:Hp} {s s':Shared}
theorem Inv.env0 (I:Inv X pins σ H s):Env0 X.prog X.w X.K X.mg X.base X.A X.stack s H:=
 ⟨I.ok.frames,I.ok.mod,I.bs,ku I.ok.bsz I.sz,I.stack,I.stkFree,I.hok,I.bare⟩
theorem Inv.after {Q:VK} {u:Value} (I:Inv X pins σ H s) (h:CE X.stack X.prog X.w H s Q u s'):EP X pins σ Q u s':=by
 obtain ⟨v,H',os,bare,un,hok,r,q⟩:=h
 obtain ⟨hh,g,d,t,os'⟩:=s'
 obtain rfl:os'=s.os:=os
 exact ⟨v,H',I.call (h':=hh) (g':=g) (d':=d) (t':=t) (ch:=[]) un hok bare (fun b z=>absurd z (by simp)),r,q⟩
end
abbrev z2I (sp:Sp) (dvs:List V) (E:XK) (t:TA):TE:=fun σ H Q=>t σ H fun vs H1=>sp (vs++dvs) H1 Q E
def z26 (C:Addr) (m:Str) (sp:Sp) (dvs:List V) (E:XK) (ta:TE) (t:TA):TE:=fun σ H Q=>ta σ H fun x H1=>∃a dx fs,x=.ref a∧H1 a=some (.ins C dx fs)∧fs.lookup m=none∧
 t σ H1 fun vs H2=>sp (x :: (vs++dvs)) H2 Q E
def z7t (C:Addr) (sp:Sp) (dvs:List V) (E:XK) (t:TA):TE:=fun σ H Q=>t σ H fun vs H1=>∀x dx,H1 x=none→H1 dx=none→dx≠x→
 sp (.ref x :: (vs++dvs)) (upd (upd H1 dx (.own x)) x (.ins C dx [])) (fun v H2=>v=.non∧Q (.ref x) H2) E
def Zd (K:ky) (fd:FuncData) (ps:List Str) (ds:List Value):Prop:=
 ∀(s:Shared) (us:List Value),K.In s.heap→(us++ds).length=ps.length→BindsTo s fd ⟨us,[]⟩ (ps.zip (us++ds))
theorem Zd.all {K:ky} {fd:FuncData} {ps:List Str} (h:∀us:List Value,us.length=ps.length→bindArgs fd ⟨us,[]⟩=pure (ps.zip us)):Zd K fd ps []:=fun s us _ hl=>by
 rw [kY] at hl ⊢
 exact .of_eq (h us hl)
def QY (CX:CXT) (X:Cx) (E:XK):Prop:=∀(pins:List (Addr × Obj)) (σ:St) (H:Hp) (s:Shared) (e:Value) (s':Shared),Inv X pins σ H s→CX X.stack H s E e s'→X.xe e s'
section
variable {X:Cx} {CX:CXT} {k:Nat} {f C:Addr} {fd:FuncData} {ps:List Str} {sp:Sp} {dvs:List V} {ds:List Value} {E:XK} {x m:Str} {p pos apos:Pos} {e o:Expr} {es:List Expr} {ta:TE} {t:TA}
theorem z1z {pins:List (Addr × Obj)} {σ:St} {H:Hp} {s:Shared} {Q:VK} {us:List Value} {vs:List V} (F:FnOk X.prog X.w X.K X.mg X.base CX k f fd ps sp) (hr:Room k X.A) (hb:Zd X.K fd ps ds) (hd:Vals dvs ds) (hx:QY CX X E)
  (I:Inv X pins σ H s) (r:Vals vs us) (h:sp (vs++dvs) H Q E):wpAny (model X.prog X.w) X.A (call (.ref f) us) (EP X pins σ Q) X.xe s:=by
 have r2:Vals (vs++dvs) (us++ds):=r.append hd
 have hl:(us++ds).length=ps.length:=by rw [←r2.length];exact F.len _ _ _ _ h
 refine wpAny_call (codeAny_mono (F.run X.A X.stack s H ⟨us,[]⟩ (us++ds) (vs++dvs) Q E hr I.env0 (hb s us I.kIn hl) r2 h) fun r s' hq=>?_)
 cases r with
 | error e=>exact hx pins σ H s e s' I hq
 | ok fl=>
  cases fl with
  | ret u=>exact I.after hq
  | next=>exact False.elim hq
  | brk=>exact False.elim hq
  | cont=>exact False.elim hq
theorem z3b (F:FnOk X.prog X.w X.K X.mg X.base CX k f fd ps sp) (hr:Room k X.A) (hg:Gl X x) (hm:X.mg x=some (.ref f)) (hk:PySem.W.keepIn X.K (.ref f)=true) (hb:Zd X.K fd ps ds) (hd:Vals dvs ds) (hx:QY CX X E)
  (ha:PA X (e :: es) t) (hdb:autoParam ((x == ("__debug__":Str))=false) aR._auto_2) (he:autoParam (starEach (e :: es) X.env=(false,eval e X.env) :: starEach es X.env) aR._auto_1) (hpl:autoParam ((backTo pos (starEach es X.env)).any (·.1)=false) aR._auto_1):
  PE X (.Call (.Name x p) (e :: es) [] pos) (z2I sp dvs E t):=by
 intro pins s σ H Q I h
 refine wpAny_Call_Name_kw (Q7 I hg hm ?_ hdb)
 refine PySem.W.callWith_K (h₀:=X.base) I.ok.mod.kin hk (thn (ha pos pins s σ H _ I h) fun us s1 ⟨vs,H1,I1,r,q⟩=>⟨I1.kIn,?_⟩) he hpl
 exact z1z F hr hb hd hx I1 r q
theorem z6n {pl:Sem Bool} (he:PE X o ta) (c:Cls X.K C) (hm:Meth X.K C m f) (F:FnOk X.prog X.w X.K X.mg X.base CX k f fd ps sp) (hr:Room k X.A) (hb:Zd X.K fd ps ds) (hd:Vals dvs ds) (hx:QY CX X E) (ha:PA X (e :: es) t)
  (hst:autoParam (starEach (e :: es) X.env=(false,eval e X.env) :: starEach es X.env) aR._auto_1) (hpl:autoParam ((backTo pos (starEach es X.env)).any (·.1)=false) aR._auto_1)
  (ht:autoParam (eval (.Call (.Attribute o m apos) (e :: es) [] pos) X.env=(do
   let ov ←eval o X.env
   standAt apos.atName
   let (f,first) ←holding [ov] (getMethod ov m pl)
   callWith pos f first (backTo pos (starEach (e :: es) X.env)) (backToKw pos (keywordEach [] X.env)))) aR._auto_1):
  PE X (.Call (.Attribute o m apos) (e :: es) [] pos) (z26 C m sp dvs E ta t):=by
 intro pins s σ H Q I h
 refine PySem.W.methodCall_KW (pl:=pl) (thn (he pins s σ H _ I h) fun u s1 ⟨x,H1,I1,rx,a,dx,fs,ex,ea,l,q⟩=>?_) ht
 subst ex
 obtain rfl:u=Value.ref a:=rx
 refine Jc I1 ea c hm l ?_
 refine PySem.W.callWith_K (first:=[.ref a]) (h₀:=X.base) I.ok.mod.kin hm.kp (thn (ha pos pins s1 σ H1 _ I1 q) fun us s2 ⟨vs,H2,I2,r,q2⟩=>⟨I2.kIn,?_⟩) hst hpl
 exact z1z (us:=.ref a :: us) (vs:=.ref a :: vs) F hr hb hd hx I2 (.cons rfl r) q2
theorem z4t {pl:Sem Bool} (he:PE X o ta) (c:Cls X.K C) (hm:Meth X.K C m f) (F:FnOk X.prog X.w X.K X.mg X.base CX k f fd ps sp) (hr:Room k X.A) (hb:Zd X.K fd ps ds) (hd:Vals dvs ds) (hx:QY CX X E)
  (ht:autoParam (eval (.Call (.Attribute o m apos) [] [] pos) X.env=(do
   let ov ←eval o X.env
   standAt apos.atName
   let (f,first) ←holding [ov] (getMethod ov m pl)
   callWith pos f first (backTo pos (starEach [] X.env)) (backToKw pos (keywordEach [] X.env)))) aR._auto_1):
  PE X (.Call (.Attribute o m apos) [] [] pos) (z26 C m sp dvs E ta tNil):=by
 intro pins s σ H Q I h
 refine PySem.W.methodCall_KW (pl:=pl) (thn (he pins s σ H _ I h) fun u s1 ⟨x,H1,I1,rx,a,dx,fs,ex,ea,l,q⟩=>?_) ht
 subst ex
 obtain rfl:u=Value.ref a:=rx
 refine Jc I1 ea c hm l ?_
 exact PySem.W.callWith_K0 (first:=[.ref a]) I1.kIn hm.kp (z1z (us:=[.ref a]) (vs:=[.ref a]) F hr hb hd hx I1 (.cons rfl .nil) q)
structure Mk (K:ky) (C f:Addr):Prop where
 makes:PySem.W.makesIn K C=true
 init:PySem.W.findIn K (.ref C) "__init__"=some (some (.ref f))
 fn:PySem.W.isFn K (.ref f)=true
 kp:PySem.W.keepIn K (.ref C)=true
theorem z4l {pins:List (Addr × Obj)} {σ:St} {H:Hp} {s:Shared} {Q:VK} {us:List Value} {vs:List V} (M:Mk X.K C f) (F:FnOk X.prog X.w X.K X.mg X.base CX k f fd ps sp) (hr:Room (k+1) X.A) (hb:Zd X.K fd ps ds) (hd:Vals dvs ds)
  (hx:QY CX X E) (I:Inv X pins σ H s) (r:Vals vs us)
  (h:∀x dx,H x=none→H dx=none→dx≠x→sp (.ref x :: (vs++dvs)) (upd (upd H dx (.own x)) x (.ins C dx [])) (fun v H2=>v=.non∧Q (.ref x) H2) E):
  wpAny (model X.prog X.w) X.A (call (.ref C) us) (EP X pins σ Q) X.xe s:=by
 have hq:=h (s.heap.objs.size+1) s.heap.objs.size (I.hok.fresh (Nat.le_succ _)) (I.hok.fresh (ke _)) (Nat.ne_of_lt (yd _))
 have I2:=Inv.made (C:=C) I
 have r2:Vals (V.ref (s.heap.objs.size+1) :: (vs++dvs)) (Value.ref (s.heap.objs.size+1) :: (us++ds)):=.cons rfl (r.append hd)
 have hl:(Value.ref (s.heap.objs.size+1) :: us++ds).length=ps.length:=by
  have e:=r2.length
  rw [F.len _ _ _ _ hq] at e
  exact e.symm
 refine wpAny_call (z4C (f:=f) I.kIn M.makes M.init (beq_iff_eq.mp M.fn) (codeAny_mono (F.run _ X.stack _ _ ⟨Value.ref (s.heap.objs.size+1) :: us,[]⟩ (Value.ref (s.heap.objs.size+1) :: (us++ds)) _ _ E (hr.make C us [])
  (I2.env0.make C us []) (hb _ (Value.ref (s.heap.objs.size+1) :: us) I2.kIn hl) r2 hq) fun r s' hq'=>?_))
 cases r with
 | error e=>exact hx pins σ _ _ e s' I2 hq'
 | ok fl=>
  cases fl with
  | ret u=>
   obtain ⟨v,H',I3,rv,ev,q3⟩:=I2.after hq'
   subst ev
   exact ⟨rv,⟨V.ref (s.heap.objs.size+1),H',I3,rfl,q3⟩⟩
  | next=>exact False.elim hq'
  | brk=>exact False.elim hq'
  | cont=>exact False.elim hq'
theorem z6o (M:Mk X.K C f) (F:FnOk X.prog X.w X.K X.mg X.base CX k f fd ps sp) (hr:Room (k+1) X.A) (hg:Gl X x) (hm:X.mg x=some (.ref C)) (hb:Zd X.K fd ps ds) (hd:Vals dvs ds) (hx:QY CX X E)
  (ha:PA X (e :: es) t) (hdb:autoParam ((x == ("__debug__":Str))=false) aR._auto_2) (he:autoParam (starEach (e :: es) X.env=(false,eval e X.env) :: starEach es X.env) aR._auto_1) (hpl:autoParam ((backTo pos (starEach es X.env)).any (·.1)=false) aR._auto_1):
  PE X (.Call (.Name x p) (e :: es) [] pos) (z7t C sp dvs E t):=by
 intro pins s σ H Q I h
 refine wpAny_Call_Name_kw (Q7 I hg hm ?_ hdb)
 refine PySem.W.callWith_K (h₀:=X.base) I.ok.mod.kin M.kp (thn (ha pos pins s σ H _ I h) fun us s1 ⟨vs,H1,I1,r,q⟩=>⟨I1.kIn,?_⟩) he hpl
 exact z4l M F hr hb hd hx I1 r q
end
section
variable {X:Cx} {CX:CXT} {k:Nat} {f C:Addr} {fd:FuncData} {ps ks:List Str} {sp:Sp} {E:XK} {x m:Str} {p pos apos kpos:Pos} {e o:Expr} {es:List Expr} {kws:List Keyword} {te ta:TE} {t tk:TA} {nm:Option Str}
variable {g:List Value→List Value→List Value} {gV:List V→List V→List V}
end
structure zj (N P:List Str) (sc:Scope):Prop where
 kind:sc.kind=.function
 co:sc.isCoroutine=false
 gen:sc.isGenerator=false
 nd:N.Nodup
 pre:N.take P.length=P
 par:∀x∈P,sc.names.lookup x=some .local∨sc.names.lookup x=some .cell
 nofree:∀y∈sc.names,y.2≠.free
theorem z0L {kindOf:Str→Option NameKind} {x:Str}:∀{binds:List (Str × Value)} {m:Str→Option Value},(∀v,(x,v)∉binds)→bindL kindOf binds m x=m x
 | [],_,_=>rfl
 | (n,v) :: r,m,h=>by
  unfold bindL
  rw [z0L fun w hw=>h w (kS _ hw)]
  split
  ·have:x≠n:=by rintro rfl;exact h v kR
   simp [this]
  ·rfl
theorem z0N {kindOf:Str→Option NameKind} {x:Str}:∀{binds:List (Str × Value)} {m:Str→Option Value},(∀v,(x,v)∉binds)→bindC kindOf binds m x=m x
 | [],_,_=>rfl
 | (n,v) :: r,m,h=>by
  unfold bindC
  rw [z0N fun w hw=>h w (kS _ hw)]
  split
  ·rfl
  ·have:x≠n:=by rintro rfl;exact h v kR
   simp [this]
theorem z0M {kindOf:Str→Option NameKind} {x:Str} {v:Value}:∀{P:List Str} {vs:List Value} {i:Nat} {m:Str→Option Value},P.Nodup→P[i]?=some x→vs[i]?=some v→kindOf x=some .local→
  bindL kindOf (P.zip vs) m x=some v
 | [],_,_,_,_,h,_,_=>by simp at h
 | _ :: _,[],_,_,_,_,h,_=>by simp at h
 | p :: P,w :: vs,0,m,nd,h1,h2,hk=>by
  simp at h1 h2;subst h1;subst h2
  show bindL kindOf ((p,w) :: P.zip vs) m p=_
  unfold bindL
  rw [z0L fun v hv=>(List.nodup_cons.mp nd).1 (List.of_mem_zip hv).1,kC hk]
  simp
 | p :: P,w :: vs,i+1,m,nd,h1,h2,hk=>by
  show bindL kindOf ((p,w) :: P.zip vs) m x=_
  unfold bindL
  exact z0M (i:=i) (List.nodup_cons.mp nd).2 (by simpa using h1) (by simpa using h2) hk
theorem z0O {kindOf:Str→Option NameKind} {x:Str} {v:Value}:∀{P:List Str} {vs:List Value} {i:Nat} {m:Str→Option Value},P.Nodup→P[i]?=some x→vs[i]?=some v→kindOf x≠some .local→
  bindC kindOf (P.zip vs) m x=some v
 | [],_,_,_,_,h,_,_=>by simp at h
 | _ :: _,[],_,_,_,_,h,_=>by simp at h
 | p :: P,w :: vs,0,m,nd,h1,h2,hk=>by
  simp at h1 h2;subst h1;subst h2
  show bindC kindOf ((p,w) :: P.zip vs) m p=_
  unfold bindC
  rw [z0N fun v hv=>(List.nodup_cons.mp nd).1 (List.of_mem_zip hv).1,kz hk]
  simp
 | p :: P,w :: vs,i+1,m,nd,h1,h2,hk=>by
  show bindC kindOf ((p,w) :: P.zip vs) m x=_
  unfold bindC
  exact z0O (i:=i) (List.nodup_cons.mp nd).2 (by simpa using h1) (by simpa using h2) hk
noncomputable def jO (N:List Str) (vs:List V):St:=vs.map some++List.replicate (N.length - vs.length) none
noncomputable def cxOf (CX:CXT) (P:Program) (w:World) (K:ky) (mg:Str→Option Value) (base:Heap) (N:List Str) (qual:Str) (scope:Scope) (f:Addr) (cd:Value) (A:Around) (outer:List Env) (s:Shared) (H:Hp) (E:XK):Cx where
 prog:=P
 w:=w
 K:=K
 mg:=mg
 base:=base
 A:=A.deeper (envOfC qual scope s.heap.objs.size f cd)
 N:=N
 s₀:=s
 H₀:=H
 env:=envOfC qual scope s.heap.objs.size f cd
 outer:=outer
 stack:=envOfC qual scope s.heap.objs.size f cd :: outer
 ex:=[]
 calm:=true
 fn:=fun _=>true
 pn:=[]
 xe:=fun e s'=>wpAny (model P w) (A.deeper (envOfC qual scope s.heap.objs.size f cd)) (leaving (envOfC qual scope s.heap.objs.size f cd) e) (fun _ s''=>CX outer H s E e s'') (fun e' s''=>CX outer H s E e' s'') s'
theorem z1Y {sc:Scope} {n:Nat} {x:Str} (h:sc.names.lookup x=some .cell):∃c,(cellsFrom n sc.names []).lookup x=some c:=by
 have q:=PySem.W.cellsFrom_some sc.names n [] (.inl h)
 exact Option.isSome_iff_exists.mp q
theorem z3x {CX:CXT} {P:Program} {w:World} {K:ky} {mg:Str→Option Value} {base:Heap} {N ps:List Str} {qual:Str} {scope:Scope} {f:Addr} {cd:Value} {A:Around} {outer:List Env} {s s1:Shared} {H:Hp} {E:XK} {us:List Value} {vs:List V}
  (S:zj N ps scope) (hd:A.handled=none) (e0:Env0 P w K mg base A outer s H) (hl:vs.length=ps.length) (r:Vals vs us)
  (x:InCallC s s.heap.objs.size (bindL (envOfC qual scope s.heap.objs.size f cd).kindOf (ps.zip us) fun _=>none) (cellsFrom (s.heap.objs.size+1) scope.names []) (bindC (envOfC qual scope s.heap.objs.size f cd).kindOf (ps.zip us) fun _=>none) s1):
  Inv (cxOf CX P w K mg base N qual scope f cd A outer s H E) [] (jO N vs) H s1:=by
 have hpl:ps.length≤N.length:=by have:=congrArg List.length S.pre;rw [List.length_take] at this;lia
 obtain ⟨h1,tk,rfl,hk⟩:=x.done
 have noA:∀b:Addr,b∉(cxOf CX P w K mg base N qual scope f cd A outer s H E).ex:=fun b z=>absurd (show b∈([]:List Addr) from z) (by simp)
 refine ⟨⟨e0.mod,S.kind,rfl,rfl,ke _,fun y z c h1 h2=>?_,fun y hy=>?_,fun y c _ h=>?_,fun _=>hd,Around.frames_deeper e0.frames,.inr ⟨rfl,rfl⟩,fun b z=>absurd z (noA b),e0.bs,e0.bsz,fun b _ _=>noA b,fun b z=>absurd z (noA b),e0.funs,e0.frf⟩,
  rfl,e0.bare,Un.kept hk,⟨_,x.toInCall.ns,fun i y v h1 h2 h3=>?_⟩,fun y c h=>⟨_,x.cell y c h⟩,e0.hok.fresh (ke _),fun y c h=>?_,fun p hp=>absurd (show p∈([]:List (Addr × Obj)) from hp) (by simp),e0.hok.kept hk,?_⟩
 ·exact name_of_addr x.apart (PySem.mem_of_lookup h1) (PySem.mem_of_lookup h2)
 ·have hy:scope.names.lookup y=some .cell∨scope.names.lookup y=some .free:=hy
  rcases hy with hy | hy
  ·exact z1Y hy
  ·exact absurd rfl (S.nofree _ (PySem.mem_of_lookup hy))
 ·exact Nat.le_of_lt (x.above y c (PySem.mem_of_lookup h))
 ·have hi:i < vs.length:=by
   unfold jO at h2
   by_cases hi:i < vs.length
   ·exact hi
   ·rw [yj (by simpa using hi)] at h2
    rw [List.getElem?_replicate] at h2
    split at h2 <;> cases h2
  have ha:vs[i]?=some v:=by
   unfold jO at h2
   rw [yi (by simpa using hi),List.getElem?_map] at h2
   cases e:vs[i]? with
   | none=>rw [e] at h2;cases h2
   | some a=>rw [e] at h2;cases h2;rfl
  obtain ⟨u,hu,rv⟩:=r.get ha
  have hp:ps[i]?=some y:=by
   rw [←S.pre,List.getElem?_take_of_lt (by lia)];exact h1
  have ndP:ps.Nodup:=by rw [←S.pre];exact S.nd.sublist (List.take_sublist _ _)
  refine ⟨u,rv,?_⟩
  rcases S.par y (kI hp) with k | k
  ·exact .inl ⟨k,z0M ndP hp hu k⟩
  ·obtain ⟨c,e⟩:=z1Y (n:=s.heap.objs.size+1) k
   refine .inr ⟨.inl k,c,e,?_⟩
   have q:=x.cell y c e
   rw [z0O ndP hp hu (by show scope.names.lookup y≠_;rw [k];decide)] at q
   exact q
 ·exact e0.hok.fresh (Nat.le_of_lt (x.above y c (PySem.mem_of_lookup h)))
 ·unfold jO
  show _=N.length
  rw [kl,kj,List.length_replicate]
  lia
theorem z8v {CX:CXT} {P:Program} {w:World} {K:ky} {mg:Str→Option Value} {base:Heap} {k:Nat} {f:Addr} {name qual:Str} {params:Arguments} {body:List Stmt} {scope:Scope} {dV kV doc pm cdv ct oc:Value} {an od:Option Addr}
  {osl:Array (Option Value)} {N ps:List Str} {sp:Sp} (lk:K.lookup f=some ⟨oc,od,.func (PySem.W.fnOf name qual params body scope dV kV doc pm an cdv ct),osl⟩) (hcd:PySem.W.codeIn K cdv qual=true) (S:zj N ps scope)
  (len:∀vs H Q E,sp vs H Q E→vs.length=ps.length)
  (hbody:∀(A:Around) (outer:List Env) (s:Shared) (H:Hp) (vs:List V) (Q:VK) (E:XK),Room k (A.deeper (envOfC qual scope s.heap.objs.size f cdv))→sp vs H Q E→
   ∃t,PSs (cxOf CX P w K mg base N qual scope f cdv A outer s H E) body t∧t { nx:=fun _ H'=>Q .non H',rt:=Q } (jO N vs) H):
  FnOk P w K mg base CX (k+1) f (PySem.W.fnOf name qual params body scope dV kV doc pm an cdv ct) ps sp:=by
 refine ⟨len,fun A outer s H args us vs Q E hr e0 hb r hsp=>?_⟩
 have hl:=len _ _ _ _ hsp
 have KX:K.In s.heap:=e0.mod.kin.keeps fun b o e=>(e0.bs b o e).1
 have lim:s.heap.NoLimit:=e0.mod.nolimit.keeps fun b o e=>(e0.bs b o e).1
 have hkind:∀y∈ps.zip us,scope.names.lookup y.1=some .local∨(scope.names.lookup y.1=some .cell∧((cellsFrom (s.heap.objs.size+1) scope.names []).lookup y.1).isSome=true):=fun ⟨n,v⟩ hy=>by
  rcases S.par n (List.of_mem_zip hy).1 with q | q
  ·exact .inl q
  ·exact .inr ⟨q,PySem.W.cellsFrom_some _ _ _ (.inl q)⟩
 refine codeAny_call_function hr.depth (KX _ _ lk) rfl S.co S.gen rfl (PySem.W.codeRec_of KX hcd) (hb _ _ _ _ ?_)
 refine wpAny_newFunctionEnv_cells S.kind hkind fun env he s1 x=>?_
 subst he
 refine ⟨lim.keeps x.toInCall.keep,codeAny_func ?_⟩
 obtain ⟨t,ht,hq⟩:=hbody A outer s H vs Q E (hr.deeper _) hsp
 have I:Inv (cxOf CX P w K mg base N qual scope f cdv A outer s H E) [] (jO N vs) H s1:=z3x S hr.hd e0 hl r x
 refine wpAny_mono (ht [] s1 (jO N vs) H _ I hq) (fun fl s' hs=>?_) fun e s' hs=>hs
 have fin:∀{σ':St} {H':Hp} {v:V} {u:Value},Inv (cxOf CX P w K mg base N qual scope f cdv A outer s H E) [] σ' H' s'→RelV v u→Q v H'→CE outer P w H s Q u s':=
  fun {σ' H' v u} J rv q=>⟨v,H',J.os,J.bare,J.base,J.hok,rv,q⟩
 cases fl with
 | ret u=>
  obtain ⟨v,σ',H',J,rv,q⟩:=hs
  exact fin J rv q
 | next=>
  obtain ⟨σ',H',J,q⟩:=hs
  exact fin (v:=V.non) (u:=Value.none) J rfl q
 | brk=>
  obtain ⟨_,_,_,q⟩:=hs
  exact False.elim q
 | cont=>
  obtain ⟨_,_,_,q⟩:=hs
  exact False.elim q
end L2
namespace L2
open PySem PySem.Spec PyProof.Rows
section
variable {X:Cx} {x:Str} {p pos:Pos} {e:Expr} {es:List Expr} {t:TA} {id T:String} {r:List V→Hp→VK→Prop}
def tCB (r:List V→Hp→VK→Prop) (t:TA):TE:=fun σ H Q=>t σ H fun vs H1=>r vs H1 Q
theorem zy (hc:ZY X (.builtin id) r) (hg:Gl X x) (hm:X.mg x=none) (hv:bootBuiltins x=some (.builtin id)) (ha:PA X (e :: es) t) (hn:autoParam (x≠"__name__") aR._auto_2) (hdb:autoParam ((x == ("__debug__":Str))=false) aR._auto_2)
  (he:autoParam (starEach (e :: es) X.env=(false,eval e X.env) :: starEach es X.env) aR._auto_1) (hpl:autoParam ((backTo pos (starEach es X.env)).any (·.1)=false) aR._auto_1):PE X (.Call (.Name x p) (e :: es) [] pos) (tCB r t):=by
 intro pins s σ H Q I h
 refine wpAny_Call_Name_kw (z0s I hg hm hv ?_ hn hdb)
 exact PyProof.Rows.callWith_builtin1 (thn (ha pos pins s σ H _ I h) fun us s1 ⟨vs,H1,I1,r1,q1⟩=>hc pins s1 σ H1 vs us Q I1 r1 q1) he hpl
theorem ji (hc:ZY X (.type T) r) (hg:Gl X x) (hm:X.mg x=none) (hv:bootBuiltins x=some (.type T)) (ha:PA X (e :: es) t) (hn:autoParam (x≠"__name__") aR._auto_2) (hdb:autoParam ((x == ("__debug__":Str))=false) aR._auto_2)
  (he:autoParam (starEach (e :: es) X.env=(false,eval e X.env) :: starEach es X.env) aR._auto_1) (hpl:autoParam ((backTo pos (starEach es X.env)).any (·.1)=false) aR._auto_1):PE X (.Call (.Name x p) (e :: es) [] pos) (tCB r t):=by
 intro pins s σ H Q I h
 refine wpAny_Call_Name_kw (z0s I hg hm hv ?_ hn hdb)
 exact PyProof.Rows.callWith_type1 (thn (ha pos pins s σ H _ I h) fun us s1 ⟨vs,H1,I1,r1,q1⟩=>hc pins s1 σ H1 vs us Q I1 r1 q1) he hpl
end
end L2
namespace HT
open PySem PyProof.Rows
section
open PySem.SeqAt
open PySem.AutoSeq1 (wpAny_loadPart')
open PySem.MeetsSeq PySem.MeetsSeq2 PySem.MeetsSeq3
end
section
variable {prog:Program} {w:World} {A:Around} {E:Value→Shared→Prop} {s:Shared}
theorem cat_tup {t b:Addr} {vs ws:List Value} {Q:Value→Shared→Prop} (ht:IsTup s.heap t vs.toArray) (hb:IsTup s.heap b ws.toArray) (hv:vs≠[])
  (h1:ws=[]→Q (.ref t) s) (h2:ws≠[]→Q (.ref s.heap.objs.size) { s with heap:=s.heap.push { cls:=.type "tuple",data:=.seq (vs++ws).toArray } })
  (hsz:vs.length+ws.length≤sizeLine):wpAny (model prog w) A (binaryOp .Add (.ref t) (.ref b)) Q E s:=by
 obtain ⟨⟨cls,dd,data,sl⟩,ho,hc,n,hd⟩:=id ht
 obtain ⟨⟨cls2,dd2,data2,sl2⟩,ho2,hc2,n2,hd2⟩:=id hb
 simp only at hc hd hc2 hd2
 subst hc hd hc2 hd2
 have e:vs.toArray++ws.toArray=(vs++ws).toArray:=by simp
 by_cases hw:ws=[]
 ·exact concat_meets ⟨_,ho,rfl⟩ ⟨_,ho2,rfl⟩ noFill_tuple_add seq_tuple_add PySem.F.slot_tuple_add PySem.F.entry_tuple_add (PySem.F.args_tuple_add_2 _ _)
   (tuple_addW1 t b vs.toArray ws.toArray n n2 dd dd2 sl sl2 (by simpa using hv) (by simp [hw])) ⟨ho,ho2,h1 hw⟩
 ·refine concat_meets ⟨_,ho,rfl⟩ ⟨_,ho2,rfl⟩ noFill_tuple_add seq_tuple_add PySem.F.slot_tuple_add PySem.F.entry_tuple_add (PySem.F.args_tuple_add_2 _ _)
   (tuple_addW2 t b vs.toArray ws.toArray n n2 dd dd2 sl sl2 (by simpa using hv) (by simpa using hw) (by rw [kG,kG];exact hsz)) ⟨ho,ho2,?_⟩
  rw [e]
  exact h2 hw
noncomputable def sIx (n d:Nat):Option Int→Nat
 | none=>d
 | some v=>if v < 0 then (v+(n:Int)).toNat else min v.toNat n
theorem z7P (n d:Nat) (hd:d≤n) (o:Option Int):sIx n d o≤n:=by
 cases o with
 | none=>exact hd
 | some v=>
  show (if v < 0 then (v+(n:Int)).toNat else min v.toNat n)≤n
  by_cases hv:v < 0
  ·rw [kC hv];lia
  ·rw [kz hv];exact Nat.min_le_right _ _
theorem z3Y (v:Int) (n d:Nat):(if v < 0 then max (v+(n:Int)) 0 else min v (n:Int))=((sIx n d (some v):Nat):Int):=by
 show (if v < 0 then max (v+(n:Int)) 0 else min v (n:Int))=(((if v < 0 then (v+(n:Int)).toNat else min v.toNat n):Nat):Int)
 by_cases hv:v < 0
 ·simp only [kC hv];lia
 ·simp only [kz hv];lia
theorem z2C (lo hi:Option Int) (n:Nat):Builtin.Slice.sliceAdjust lo hi 1 (n:Int)=(((sIx n 0 lo:Nat):Int),((sIx n n hi:Nat):Int)):=by
 have h1:¬((1:Int) < 0):=by lia
 unfold Builtin.Slice.sliceAdjust
 simp only [h1,if_false]
 refine Prod.ext ?_ ?_
 ·cases lo with
  | none=>rfl
  | some v=>exact z3Y v n 0
 ·cases hi with
  | none=>rfl
  | some v=>exact z3Y v n n
theorem z2b (i j:Nat):Builtin.Slice.slicePlaces (i:Int) (j:Int) 1=j - i:=by
 unfold Builtin.Slice.slicePlaces
 have h1:(1:Int) > 0:=by lia
 simp only [h1,if_true,Int.ediv_one]
 split <;> lia
theorem J6 {v:Value} {o:Option Int} {Q:Option Int→Shared→Prop} (p:IsPart v o) (h:Q o s):wpAny (model prog w) A (Builtin.Slice.slicePartIndex v) Q E s:=by
 cases p with
 | none=>exact slicePart_none h
 | int i t=>exact slicePart_int h
theorem Qi {sl:Addr} {vl vu:Value} {lo hi:Option Int} {n:Nat} {Q:Int × Int × Nat→Shared→Prop} (hs:s.heap.IsSliceOf sl vl vu .none) (pl:IsPart vl lo) (pu:IsPart vu hi)
  (h:Q (((sIx n 0 lo:Nat):Int),1,sIx n n hi - sIx n 0 lo) s):wpAny (model prog w) A (Builtin.Slice.sliceApplied (.ref sl) (pure (n:Int))) Q E s:=by
 obtain ⟨os,hos,hcs,hds⟩:=id hs
 unfold Builtin.Slice.sliceApplied Builtin.Slice.sliceFields
 refine wpAny_bind (wpAny_bind (wpAny_field hos hds (x:=vl) rfl (wpAny_bind (wpAny_field hos hds (x:=vu) rfl (wpAny_bind (wpAny_field hos hds (x:=.none) rfl (wpAny_pure ?_)))))))
 refine wpAny_bind (slicePart_none ?_)
 show wpAny _ _ (if ((1:Int) == 0)=true then _ else _) _ _ s
 rw [kz (by decide)]
 refine wpAny_bind (J6 pl (wpAny_bind (J6 pu (wpAny_bind (wpAny_pure ?_)))))
 show wpAny _ _ (match Builtin.Slice.sliceAdjust lo hi 1 (n:Int) with | (lo,hi)=>pure (lo,(1:Int),Builtin.Slice.slicePlaces lo hi 1)) _ _ s
 rw [z2C lo hi n]
 show wpAny _ _ (pure (((sIx n 0 lo:Nat):Int),(1:Int),Builtin.Slice.slicePlaces ((sIx n 0 lo:Nat):Int) ((sIx n n hi:Nat):Int) 1)) _ _ s
 rw [z2b]
 exact wpAny_pure h
theorem z4q (xs:Array Value) (i k:Nat):((List.range k).filterMap fun (m:Nat)=>xs[((i:Int)+(m:Int) * 1).toNat]?).toArray=((xs.toList.drop i).take k).toArray:=by
 have e:(fun (m:Nat)=>xs[((i:Int)+(m:Int) * 1).toNat]?)=fun m=>xs[i+m]?:=by
  funext m
  have:((i:Int)+(m:Int) * 1).toNat=i+m:=by lia
  rw [this]
 rw [e]
 have:=pick_run xs i k
 rw [List.filterMap_map] at this
 have e2:((fun x=>xs[x]?) ∘ fun x=>i+x)=fun m=>xs[i+m]?:=rfl
 rw [e2] at this
 rw [this]
theorem getItem_tuple_cut {t sl:Addr} {items:Array Value} {vl vu:Value} {lo hi:Option Int} {Q:Value→Shared→Prop} (ht:IsTup s.heap t items) (hs:s.heap.IsSliceOf sl vl vu .none) (pl:IsPart vl lo) (pu:IsPart vu hi)
  (hw:¬(sIx items.size 0 lo=0∧sIx items.size items.size hi=items.size))
  (h:Q (.ref s.heap.objs.size) { s with heap:=s.heap.push { cls:=.type "tuple",data:=.seq ((items.toList.drop (sIx items.size 0 lo)).take (sIx items.size items.size hi - sIx items.size 0 lo)).toArray } })
  (hsz:items.size≤sizeLine):wpAny (model prog w) A (getItem (.ref t) (.ref sl)) Q E s:=by
 have htake:sizeOk (.seq ((items.toList.drop (sIx items.size 0 lo)).take (sIx items.size items.size hi - sIx items.size 0 lo)).toArray):=by
  show ((items.toList.drop (sIx items.size 0 lo)).take (sIx items.size items.size hi - sIx items.size 0 lo)).toArray.size≤sizeLine
  rw [kG,List.length_take,List.length_drop,Array.length_toList]
  lia
 have hj:sIx items.size items.size hi≤items.size:=z7P _ _ (ke _) hi
 obtain ⟨os,hos,hcs,hds⟩:=id hs
 have hTs:s.TypeIs (.ref sl) "slice":=⟨os,hos,hcs⟩
 unfold getItem
 try with_reducible refine wpAny_holding ?_
 first | refine wpAny_bind (wpAny_pure ?_) | skip
 refine wpAny_bind (wpAny_sequenceKey ht.typeIs (by decide) ?_)
 refine wpAny_bind (wpAny_callSpecial?_slot (name:=Str.ofString "__getitem__") ht.typeIs PyProof.Rows.slot_tuple_getitem
  (wpAny_call_entry PyProof.Rows.slot_tuple_getitem ht.typeIs entry_tuple_getitem ?_ (args_tuple_getitem _ _)))
 show wpAny _ _ (Builtin.Tuple.tupleItemsOf (.ref t) >>= _) _ _ s
 refine wpAny_bind (tupleItemsOf_ ht ?_)
 refine wpAny_bind (wpAny_typeOf hTs ?_)
 rw [kC (by decide)]
 refine wpAny_bind (Qi hs pl pu ?_)
 have hno:¬((((sIx items.size 0 lo:Nat):Int) == 0&&(1:Int) == 1&&(sIx items.size items.size hi - sIx items.size 0 lo) == items.size)=true):=by
  intro q
  rw [yf,yf] at q
  have q1:((sIx items.size 0 lo:Nat):Int)=0:=eq_of_beq q.1.1
  have q2:sIx items.size items.size hi - sIx items.size 0 lo=items.size:=eq_of_beq q.2
  exact hw ⟨by lia,by lia⟩
 show wpAny _ _ (if (((sIx items.size 0 lo:Nat):Int) == 0&&(1:Int) == 1&&(sIx items.size items.size hi - sIx items.size 0 lo) == items.size)=true then _ else _) _ _ s
 rw [kz hno,z4q]
 first
  | exact wpAny_bind (m:=Builtin.Tuple.tupleExact _) (wpAny_newObj_type (wpAny_pure ⟨_,rfl,wpAny_pure h⟩) htake)
  | exact wpAny_bind (m:=Builtin.Tuple.tupleExact _) (wpAny_newObj_type (wpAny_bind (wpAny_pure (wpAny_pure ⟨_,rfl,wpAny_pure h⟩))) htake)
  | exact wpAny_bind (wpAny_bind (m:=Builtin.Tuple.tupleExact _) (wpAny_newObj_type (wpAny_pure (wpAny_pure ⟨_,rfl,wpAny_pure h⟩)) htake))
  | exact wpAny_bind (wpAny_bind (m:=Builtin.Tuple.tupleExact _) (wpAny_newObj_type (wpAny_pure ⟨_,rfl,wpAny_pure h⟩) htake))
end
end HT
namespace L2
open PySem PySem.Spec PyProof.Rows
abbrev TO:=St→Hp→(Option Int→Hp→Prop)→Prop
def PO (X:Cx) (e:Option Expr) (t:TO):Prop:=
 ∀(pins:List (Addr × Obj)) (s:Shared) (σ:St) (H:Hp) (Q:Option Int→Hp→Prop),Inv X pins σ H s→t σ H Q→
  wpAny (model X.prog X.w) X.A (evalPart e X.env) (fun u s'=>∃o H',Inv X pins σ H' s'∧IsPart u o∧Q o H') X.xe s
def z60:TO:=fun _ H Q=>Q none H
def z90 (t:TE):TO:=fun σ H Q=>t σ H fun x H1=>∃i,x=.int i∧Q (some i) H1
section
variable {X:Cx} {e:Expr} {te:TE} {lo hi:Option Expr} {tl th:TO} {pos p2:Pos}
theorem z17:PO X none z60:=by
 intro pins s σ H Q I h
 rw [evalPart_none]
 exact wpAny_pure ⟨none,H,I,.none,h⟩
theorem z16 (h:PE X e te):PO X (some e) (z90 te):=by
 intro pins s σ H Q I hw
 rw [evalPart_some]
 refine thn (h pins s σ H _ I hw) fun u s1 zz=>?_
 obtain ⟨x,H1,I1,r1,q1⟩:=zz
 obtain ⟨i,rfl,q⟩:=q1
 obtain ⟨t,rfl⟩:=r1
 exact ⟨some i,H1,I1,.int i t,q⟩
def SlR (X:Cx) (r:V→Option Int→Option Int→Hp→VK→Prop):Prop:=
 ∀(pins:List (Addr × Obj)) (s:Shared) (σ:St) (H:Hp) (x:V) (v vl vu:Value) (lo hi:Option Int) (sl:Addr) (Q:VK),Inv X pins σ H s→RelV x v→s.heap.IsSliceOf sl vl vu .none→IsPart vl lo→IsPart vu hi→r x lo hi H Q→
  ∃T id,typeLookup (.type T) "__getitem__"=pure (some (.builtin id))∧s.TypeIs v T∧wpAny (model X.prog X.w) X.A (getItem v (.ref sl)) (EP X pins σ Q) X.xe s
def tSl (r:V→Option Int→Option Int→Hp→VK→Prop) (te:TE) (tl th:TO):TE:=fun σ H Q=>te σ H fun x H1=>tl σ H1 fun l H2=>th σ H2 fun u H3=>r x l u H3 Q
theorem Jx {r:V→Option Int→Option Int→Hp→VK→Prop} (hr:SlR X r) (he:PE X e te) (hl:PO X lo tl) (hu:PO X hi th):PE X (.Subscript e (.Slice lo hi none p2) pos) (tSl r te tl th):=by
 intro pins s σ H Q I h
 refine Subscript_ (thn (he pins s σ H _ I h) fun v s1 zz=>?_)
 obtain ⟨x,H1,I1,r1,q1⟩:=zz
 refine wpAny_Slice (thn (hl pins s1 σ H1 _ I1 q1) fun vl s2 ⟨l,H2,I2,pl,q2⟩=>thn (hu pins s2 σ H2 _ I2 q2) fun vu s3 zz=>?_)
 obtain ⟨u,H3,I3,pu,q3⟩:=zz
 rw [evalPart_none]
 refine wpAny_pure ?_
 have I4:Inv X pins σ H3 { s3 with heap:=s3.heap.push { cls:=.type "slice",data:=.fields #[vl,vu,.none] } }:=I3.kept (t':=s3.toks) fun b ob q=>Heap.get?_push_of_some _ q
 obtain ⟨T,id,hT,ht,hg⟩:=hr pins { s3 with heap:=s3.heap.push { cls:=.type "slice",data:=.fields #[vl,vu,.none] } } σ H3 x v vl vu l u s3.heap.objs.size Q I4 r1 (Heap.IsSliceOf.new ..) pl pu q3
 show wpAny (model X.prog X.w) X.A (subscriptTail e (.Slice lo hi none p2) v (.ref s3.heap.objs.size)) (EP X pins σ Q) X.xe { s3 with heap:=s3.heap.push { cls:=.type "slice",data:=.fields #[vl,vu,.none] } }
 exact tail_any (ops:=[.ref s3.heap.objs.size,v]) ht hT hg (by with_unfolding_all rfl)
noncomputable def cutV (xs:List V) (lo hi:Option Int):List V:=(xs.drop (HT.sIx xs.length 0 lo)).take (HT.sIx xs.length xs.length hi - HT.sIx xs.length 0 lo)
theorem jT (xs:List V) (lo hi:Option Int):(cutV xs lo hi).length≤xs.length:=by
 unfold cutV
 rw [List.length_take,List.length_drop]
 lia
def rSlT (K:ky):V→Option Int→Option Int→Hp→VK→Prop:=fun x lo hi H Q=>∃a xs,x=.ref a∧SqT K H a xs∧
 ¬(HT.sIx xs.length 0 lo=0∧HT.sIx xs.length xs.length hi=xs.length)∧∀p,H p=none→Q (.ref p) (upd H p (.tup (cutV xs lo hi)))
theorem z7G:SlR X (rSlT X.K):=by
 intro pins s σ H x v vl vu lo hi sl Q I rx hs pl pu h
 obtain ⟨a,xs,rfl,hx,hw,q⟩:=h
 cases rx
 obtain ⟨its,r,ht,hz⟩:=I.tuple hx
 have hlen:its.toArray.size=xs.length:=by rw [kG];exact r.length.symm
 refine ⟨"tuple",_,PyProof.Rows.slot_tuple_getitem.lookup,ht.typeIs,?_⟩
 refine HT.getItem_tuple_cut ht hs pl pu (by rw [hlen];exact hw) ?_ (by rw [hlen];exact hz)
 rw [hlen]
 refine ⟨.ref s.heap.objs.size,_,I.laid (t':=s.toks) (o:=.tup (cutV xs lo hi)) (fun b ob q=>Heap.get?_push_of_some _ q) (ke _) ?_,rfl,q _ (I.hok.fresh (ke _))⟩
 exact ⟨ku (jT xs lo hi) hz,_,(r.drop (HT.sIx xs.length 0 lo)).take (HT.sIx xs.length xs.length hi - HT.sIx xs.length 0 lo),IsTup.new _ _⟩
def z9q (K:ky):R2:=fun x y H Q=>∃a b xs ys,x=.ref a∧y=.ref b∧SqT K H a xs∧SqT K H b ys∧xs≠[]∧xs.length+ys.length≤sizeLine∧
 (ys=[]→Q (.ref a) H)∧(ys≠[]→∀p,H p=none→Q (.ref p) (upd H p (.tup (xs++ys))))
theorem Vals.nil_iff {xs:List V} {us:List Value} (r:Vals xs us):us=[]↔xs=[]:=by
 cases r with
 | nil=>simp
 | cons _ _=>simp
theorem z3e:OpR X (binaryOp .Add) (z9q X.K):=by
 intro pins s σ H x y v u Q I rx ry h
 obtain ⟨a,b,xs,ys,rfl,rfl,ha,hb,hx,hz,q1,q2⟩:=h
 cases rx
 cases ry
 obtain ⟨its,r1,p1,_⟩:=I.tuple ha
 obtain ⟨its2,r2,p2,_⟩:=I.tuple hb
 refine HT.cat_tup p1 p2 (fun z=>hx (r1.nil_iff.mp z)) (fun z=>⟨.ref a,H,I,rfl,q1 (r2.nil_iff.mp z)⟩) (fun z=>?_) (by rw [←r1.length,←r2.length];exact hz)
 refine ⟨.ref s.heap.objs.size,_,I.laid (t':=s.toks) (o:=.tup (xs++ys)) (fun b ob q=>Heap.get?_push_of_some _ q) (ke _) ?_,rfl,q2 (fun w=>z (r2.nil_iff.mpr w)) _ (I.hok.fresh (ke _))⟩
 exact ⟨by rw [kl];exact hz,_,r1.append r2,IsTup.new _ _⟩
end
end L2
namespace L2
open PySem PySem.Spec PyProof.Rows
noncomputable def ixN (n:Nat) (i:Int):Option Nat:=if 0≤i then (if i < n then some i.toNat else none) else if -(n:Int)≤i then some (i+n).toNat else none
noncomputable def atI {α:Type} (xs:List α) (i:Int):Option α:=(ixN xs.length i).bind fun j=>xs[j]?
theorem z3u {n:Nat} {i:Int} {j:Nat} (h:ixN n i=some j):seqIndex? i n=some j∧j < n∧-(n:Int)≤i∧i < n:=by
 unfold ixN at h
 by_cases h0:0≤i
 ·rw [kC h0] at h
  by_cases h1:i < n
  ·rw [kC h1] at h
   have e:i.toNat=j:=kD h
   exact ⟨by rw [seqIndex_of h0 h1,e],by lia,by lia,h1⟩
  ·rw [kz h1] at h;cases h
 ·rw [kz h0] at h
  by_cases h1: -(n:Int)≤i
  ·rw [kC h1] at h
   have e:(i+n).toNat=j:=kD h
   exact ⟨by rw [seqIndex_neg (by lia) h1,e],by lia,h1,by lia⟩
  ·rw [kz h1] at h;cases h
theorem z47 {α:Type} {xs:List α} {i:Int} {v:α} (h:atI xs i=some v):∃j,seqIndex? i xs.length=some j∧xs[j]?=some v∧j < xs.length∧-(xs.length:Int)≤i∧i < xs.length:=by
 unfold atI at h
 cases e:ixN xs.length i with
 | none=>rw [e] at h;cases h
 | some j=>
  rw [e] at h
  obtain ⟨h1,h2,h3,h4⟩:=z3u e
  exact ⟨j,h1,h,h2,h3,h4⟩
theorem zq {α:Type} {xs:List α} {j:Nat} {v:α} (h:xs[j]?=some v):atI xs (j:Int)=some v:=by
 have hj:j < xs.length:=(kf.mp h).1
 have e:ixN xs.length (j:Int)=some j:=by
  unfold ixN
  rw [kC (by lia),kC (by lia)];simp
 unfold atI;rw [e];exact h
theorem z02 {α:Type} (xs:List α) (v:α):atI (xs++[v]) (-1)=some v:=by
 have hl:(xs++[v]).length=xs.length+1:=by simp
 have e:ixN (xs++[v]).length (-1)=some xs.length:=by
  unfold ixN
  rw [hl,kz (by decide),kC (by lia)]
  congr 1
  lia
 unfold atI
 rw [e]
 show (xs++[v])[xs.length]?=some v
 simp
def z7l (b:Expr):Prop:=∀o i,subscripted b false o i=operate [o,i] (getItem o i)
def IxR (X:Cx) (r:R2):Prop:=
 ∀(value slice:Expr) (pins:List (Addr × Obj)) (s:Shared) (σ:St) (H:Hp) (x y:V) (v u:Value) (Q:VK),Inv X pins σ H s→RelV x v→RelV y u→r x y H Q→
  subscripted slice false v u=operate [v,u] (getItem v u)→wpAny (model X.prog X.w) X.A (subscriptTail value slice v u) (EP X pins σ Q) X.xe s
def MtR (X:Cx) (id:String) (r:V→List V→Hp→VK→Prop):Prop:=
 ∀(pins:List (Addr × Obj)) (s:Shared) (σ:St) (H:Hp) (x:V) (xs:List V) (v:Value) (us:List Value) (Q:VK),Inv X pins σ H s→RelV x v→Vals xs us→r x xs H Q→
  wpAny (model X.prog X.w) X.A (call (.builtin id) (v :: us)) (EP X pins σ Q) X.xe s
section
variable {X:Cx} {a b:Expr} {ta tb:TE} {pos:Pos}
theorem zP {r:R2} (hr:IxR X r) (ha:PE X a ta) (hb:PE X b tb) (hs:z7l b):PE X (.Subscript a b pos) (tOp r ta tb):=by
 intro pins s σ H Q I h
 exact Subscript_ (binT ha hb I h fun v u s2 x y H2 I2 rx ry q=>hr a b pins s2 σ H2 x y v u Q I2 rx ry q (hs _ _))
def rIxL (K:ky):R2:=fun x y H Q=>∃p xs i v,x=.ref p∧y=.int i∧SqL K H p xs∧atI xs i=some v∧Q v H
def rIxT (K:ky):R2:=fun x y H Q=>∃p xs i v,x=.ref p∧y=.int i∧SqT K H p xs∧atI xs i=some v∧Q v H
theorem zL:IxR X (rIxL X.K):=by
 intro value slice pins s σ H x y v u Q I rx ry h hs
 obtain ⟨p,xs,i,z,rfl,rfl,hq,he,q⟩:=h
 cases rx
 obtain ⟨t,rfl⟩:=ry
 obtain ⟨its,r,pl,hz⟩:=I.list hq
 obtain ⟨j,h1,h2,h3,h4,h5⟩:=z47 he
 obtain ⟨w,ew,rw'⟩:=r.get h2
 have hl:=r.length
 have hn:=QL
 have fin:EP X pins σ Q w s:=⟨z,H,I,rw',q⟩
 by_cases h0:0≤i
 ·have hj:i.toNat=j:=by
   rw [seqIndex_of h0 h5] at h1
   exact kD h1
  exact item_listR pl.isList h0 (by lia) (by rw [hj];simpa using ew) fin hs
 ·have hj:(i+(its.toArray.size:Int)).toNat=j:=by
   rw [seqIndex_neg (by lia) h4] at h1
   rw [kG,←hl]
   exact kD h1
  exact subscriptTail_builtinR (x:=w) pl.isList.typeIs slot_list_getitem.lookup
   (wpAny_getItem_list_neg (Q:=fun r s'=>r=w∧EP X pins σ Q r s') pl.isList (by lia) (by rw [kG] <;> lia) (by lia) (by rw [hj];simpa using ew) ⟨rfl,fin⟩) hs
theorem qo:IxR X (rIxT X.K):=by
 intro value slice pins s σ H x y v u Q I rx ry h hs
 obtain ⟨p,xs,i,z,rfl,rfl,hq,he,q⟩:=h
 cases rx
 obtain ⟨t,rfl⟩:=ry
 obtain ⟨its,r,pl,hz⟩:=I.tuple hq
 obtain ⟨j,h1,h2,h3,h4,h5⟩:=z47 he
 obtain ⟨w,ew,rw'⟩:=r.get h2
 have hl:=r.length
 have hn:=QL
 have fin:EP X pins σ Q w s:=⟨z,H,I,rw',q⟩
 exact subscriptTail_builtinR (x:=w) pl.typeIs slot_tuple_getitem.lookup
  (getItem_tuple (j:=j) (Q:=fun r s'=>r=w∧EP X pins σ Q r s') pl (by lia) (by lia) (by rw [kG,←hl];exact h1) (by simpa using ew) ⟨rfl,fin⟩) hs
theorem z2k (its:List Value) (n j:Nat) (u:Value):Obj.mapSeq (·.setIfInBounds j u) { cls:=.type "list",data:=.seq its.toArray n }={ cls:=.type "list",data:=.seq (its.set j u).toArray n }:=by
 simp [Obj.mapSeq]
theorem Inv.lst {pins:List (Addr × Obj)} {σ:St} {H:Hp} {s:Shared} {p:Addr} {xs:List V} (I:Inv X pins σ H s) (h:H p=some (.lst xs)):
  ∃(its:List Value) (n:Nat),Vals xs its∧s.heap.get? p=some { cls:=.type "list",data:=.seq its.toArray n }∧xs.length≤sizeLine:=by
 obtain ⟨z,its,n,r,e⟩:=I.hok p _ h
 exact ⟨its,n,r,e,z⟩
theorem Inv.lstUpd {pins:List (Addr × Obj)} {σ:St} {H:Hp} {s:Shared} {p:Addr} {xs ys:List V} {its its':List Value} {n n':Nat} {f:Obj→Obj} (I:Inv X pins σ H s) (h:H p=some (.lst xs))
  (ho:s.heap.get? p=some { cls:=.type "list",data:=.seq its.toArray n }) (hf:f { cls:=.type "list",data:=.seq its.toArray n }={ cls:=.type "list",data:=.seq its'.toArray n' }) (r:Vals ys its') (hz:ys.length≤sizeLine) (t:Nat):
  Inv X pins σ (upd H p (.lst ys)) { s with heap:=s.heap.update p f,toks:=t }:=by
 have e:(s.heap.update p f).get? p=some { cls:=.type "list",data:=.seq its'.toArray n' }:=by
  rw [Heap.get?_update_self f ho (by rw [hf] <;> rfl),hf]
 refine I.write (x:=p) (e:=p) (by rw [h];trivial) (.inl rfl) (fun b u hb q=>(Heap.get?_update_other _ _ (Ne.symm hb)).trans q) ⟨_,e⟩ ?_
 exact ⟨hz,its',n',r,e⟩
def z9o:V→V→V→Hp→(Hp→Prop)→Prop:=fun o i v H Q=>∃p xs k j,o=.ref p∧i=.int k∧H p=some (.lst xs)∧ixN xs.length k=some j∧Q (upd H p (.lst (xs.set j v)))
theorem jE:PSet X z9o:=by
 intro pins s σ H o i v ov iv u Q I ro ri rv h
 obtain ⟨p,xs,k,j,rfl,rfl,hp,hj,q⟩:=h
 cases ro
 obtain ⟨t,rfl⟩:=ri
 obtain ⟨its,n,r,ho,hz⟩:=I.lst hp
 obtain ⟨h1,h2,h3,h4⟩:=z3u hj
 have hl:=r.length
 have hn:=QL
 have I':Inv X pins σ (upd H p (.lst (xs.set j v))) { s with heap:=s.heap.update p (Obj.mapSeq (·.setIfInBounds j u)) }:=
  I.lstUpd hp ho (z2k its n j u) (r.set rv j) (by rw [List.length_set];exact hz) s.toks
 by_cases h0:0≤k
 ·have hk:k.toNat=j:=by
   rw [seqIndex_of h0 h4] at h1
   exact kD h1
  exact PySem.W.ki_setAt ho h0 (by lia) (by rw [kG,←hl];exact h4) (by rw [hk];exact ⟨_,I',q⟩)
 ·have hk:(k+(its.toArray.size:Int)).toNat=j:=by
   rw [seqIndex_neg (by lia) h3] at h1
   rw [kG,←hl]
   exact kD h1
  exact PySem.W.ki_setBack ho (by lia) (by rw [kG,←hl];exact h3) (by lia) (by rw [hk];exact ⟨_,I',q⟩)
theorem z0g (lo hi:Option Int) (n:Nat):(sliceBounds lo hi none n).1=((HT.sIx n 0 lo:Nat):Int)∧(sliceBounds lo hi none n).2.1=((HT.sIx n n hi:Nat):Int)∧(sliceBounds lo hi none n).2.2=1:=by
 refine ⟨?_,?_,rfl⟩
 ·cases lo with
  | none=>simp [sliceBounds,HT.sIx]
  | some i=>
   simp only [sliceBounds,HT.sIx,Option.getD_none,show (1:Int) > 0 by decide,if_true]
   by_cases h:i < 0
   ·simp only [h,if_true] <;> lia
   ·simp only [h,if_false] <;> lia
 ·cases hi with
  | none=>simp [sliceBounds,HT.sIx]
  | some i=>
   simp only [sliceBounds,HT.sIx,Option.getD_none,show (1:Int) > 0 by decide,if_true]
   by_cases h:i < 0
   ·simp only [h,if_true] <;> lia
   ·simp only [h,if_false] <;> lia
theorem Js (its:List Value) (lo hi:Option Int):slicePick its.toArray lo hi none=((its.drop (HT.sIx its.length 0 lo)).take (HT.sIx its.length its.length hi - HT.sIx its.length 0 lo)).toArray:=by
 obtain ⟨h1,h2,h3⟩:=z0g lo hi its.toArray.size
 unfold slicePick
 rw [h1,h2,h3]
 simp only [sliceRange_one,pick_run,kG] <;> rfl
def rSlL (K:ky):V→Option Int→Option Int→Hp→VK→Prop:=fun x lo hi H Q=>∃a xs,x=.ref a∧SqL K H a xs∧∀p,H p=none→Q (.ref p) (upd H p (.lst (cutV xs lo hi)))
theorem z2W:SlR X (rSlL X.K):=by
 intro pins s σ H x v vl vu lo hi sl Q I rx hs pl pu h
 obtain ⟨a,xs,rfl,hx,q⟩:=h
 cases rx
 obtain ⟨its,r,ht,hz⟩:=I.list hx
 have hlen:=r.length
 refine ⟨"list",_,slot_list_getitem.lookup,ht.isList.typeIs,?_⟩
 refine wpAny_getItem_list_slice ht.isList hs pl pu .none (by simp) ?_ (by rw [kG] <;> lia)
 rw [Js,←hlen]
 refine ⟨.ref s.heap.objs.size,_,I.laid (t':=s.toks) (o:=.lst (cutV xs lo hi)) (fun b ob q=>Heap.get?_push_of_some _ q) (ke _) ?_,rfl,q _ (I.hok.fresh (ke _))⟩
 exact ⟨ku (jT xs lo hi) hz,_,0,(r.drop (HT.sIx xs.length 0 lo)).take (HT.sIx xs.length xs.length hi - HT.sIx xs.length 0 lo),Heap.get?_push_size _ rfl⟩
noncomputable def jL:V→Bool
 | .non=>true
 | .bl _=>true
 | .int _=>true
 | .str _=>true
 | _=>false
noncomputable def eqV:V→V→Bool
 | .non,.non=>true
 | .bl a,.bl b=>a == b
 | .bl a,.int b=>(if a then 1 else 0) == b
 | .int a,.bl b=>a == (if b then 1 else 0)
 | .int a,.int b=>a == b
 | .str a,.str b=>a == b
 | _,_=>false
theorem z3L {A:Around} {s:Shared} {y x:V} {u v:Value} (ry:RelV y u) (rx:RelV x v) (fy:jL y=true) (fx:jL x=true):SeqAt.EqAt A s u v (eqV y x):=by
 cases y with
 | non=>
  cases ry
  cases x with
  | non=>cases rx;exact SeqAt.EqAt.same _
  | bl b=>cases rx;exact SeqAt.EqAt.none_bool b
  | int b=>obtain ⟨t,rfl⟩:=rx;exact SeqAt.EqAt.none_int b t
  | str b=>obtain ⟨t,rfl⟩:=rx;exact SeqAt.EqAt.none_str b t
  | _=>exact absurd (show false=true from fx) ka
 | bl a=>
  cases ry
  cases x with
  | non=>cases rx;exact SeqAt.EqAt.bool_none a
  | bl b=>cases rx;exact SeqAt.EqAt.bool_bool a b
  | int b=>obtain ⟨t,rfl⟩:=rx;exact SeqAt.EqAt.bool_int a b t
  | str b=>obtain ⟨t,rfl⟩:=rx;exact SeqAt.EqAt.bool_str a b t
  | _=>exact absurd (show false=true from fx) ka
 | int a=>
  obtain ⟨t',rfl⟩:=ry
  cases x with
  | non=>cases rx;exact SeqAt.EqAt.int_none a t'
  | bl b=>cases rx;exact SeqAt.EqAt.int_bool a t' b
  | int b=>obtain ⟨t,rfl⟩:=rx;exact SeqAt.EqAt.int_int a t' b t
  | str b=>obtain ⟨t,rfl⟩:=rx;exact SeqAt.EqAt.int_str a t' b t
  | _=>exact absurd (show false=true from fx) ka
 | str a=>
  obtain ⟨t',rfl⟩:=ry
  cases x with
  | non=>cases rx;exact SeqAt.EqAt.str_none a t'
  | bl b=>cases rx;exact SeqAt.EqAt.str_bool a t' b
  | int b=>obtain ⟨t,rfl⟩:=rx;exact SeqAt.EqAt.str_int a t' b t
  | str b=>obtain ⟨t,rfl⟩:=rx;exact SeqAt.EqAt.str_str a t' b t
  | _=>exact absurd (show false=true from fx) ka
 | _=>exact absurd (show false=true from fy) ka
noncomputable def eqU (x:V) (u:Value):Bool:=match u with
 | .none=>eqV .non x
 | .bool b=>eqV (.bl b) x
 | .int i _=>eqV (.int i) x
 | .str z _=>eqV (.str z) x
 | _=>false
theorem z5O {x y:V} {u:Value} (r:RelV y u) (f:jL y=true):eqU x u=eqV y x:=by
 cases y with
 | non=>cases r;rfl
 | bl b=>cases r;rfl
 | int i=>obtain ⟨t,rfl⟩:=r;rfl
 | str z=>obtain ⟨t,rfl⟩:=r;rfl
 | _=>exact absurd (show false=true from f) ka
theorem QV {x:V}:∀{xs:List V} {us:List Value},Vals xs us→xs.all jL=true→us.any (eqU x)=xs.any fun y=>eqV y x
 | _,_,.nil,_=>rfl
 | y :: xs,u :: us,.cons r t,f=>by
  rw [List.all_cons,yf] at f
  rw [List.any_cons,List.any_cons,z5O r f.1,QV t f.2]
theorem ZJ {A:Around} {s:Shared} {x:V} {v:Value} (rx:RelV x v) (fx:jL x=true):∀{xs:List V} {us:List Value},Vals xs us→xs.all jL=true→∀u∈us,SeqAt.EqAt A s u v (eqU x u)
 | _,_,.nil,_=>fun u hu=>by cases hu
 | y :: xs,u :: us,.cons r t,f=>fun u' hu=>by
  rw [List.all_cons,yf] at f
  rcases kF.mp hu with rfl | hu
  ·rw [z5O r f.1];exact z3L r rx f.1 fx
  ·exact ZJ rx fx t f.2 u' hu
noncomputable def inV (x:V) (xs:List V):Bool:=xs.any fun y=>eqV y x
def rIn (K:ky) (neg:Bool):R2:=fun x y H Q=>∃p xs,y=.ref p∧(SqL K H p xs∨SqT K H p xs)∧jL x=true∧xs.all jL=true∧Q (.bl (if neg then !inV x xs else inV x xs)) H
theorem qx:OpR X (compareOp .In) (rIn X.K false):=by
 intro pins s σ H x y v u Q I rx ry h
 obtain ⟨p,xs,rfl,hq,fx,fs,q⟩:=h
 cases ry
 rcases hq with hq | hq
 ·obtain ⟨its,r,pl,hz⟩:=I.list hq
  refine SeqAt.in_listAt (eqU x) pl.isList (fun w hw=>ZJ rx fx r fs w (by simpa using hw)) ⟨.bl _,H,I,rfl,?_⟩
  rw [show its.toArray.any (eqU x)=its.any (eqU x) by simp,QV r fs]
  exact q
 ·obtain ⟨its,r,pl,hz⟩:=I.tuple hq
  refine SeqAt.in_tupleAt (eqU x) pl (fun w hw=>ZJ rx fx r fs w (by simpa using hw)) ⟨.bl _,H,I,rfl,?_⟩
  rw [show its.toArray.any (eqU x)=its.any (eqU x) by simp,QV r fs]
  exact q
theorem z0k:OpR X (compareOp .NotIn) (rIn X.K true):=by
 intro pins s σ H x y v u Q I rx ry h
 obtain ⟨p,xs,rfl,hq,fx,fs,q⟩:=h
 cases ry
 rcases hq with hq | hq
 ·obtain ⟨its,r,pl,hz⟩:=I.list hq
  refine SeqAt.notIn_listAt (eqU x) pl.isList (fun w hw=>ZJ rx fx r fs w (by simpa using hw)) ⟨.bl _,H,I,rfl,?_⟩
  rw [show its.toArray.any (eqU x)=its.any (eqU x) by simp,QV r fs]
  exact q
 ·obtain ⟨its,r,pl,hz⟩:=I.tuple hq
  refine SeqAt.notIn_tupleAt (eqU x) pl (fun w hw=>ZJ rx fx r fs w (by simpa using hw)) ⟨.bl _,H,I,rfl,?_⟩
  rw [show its.toArray.any (eqU x)=its.any (eqU x) by simp,QV r fs]
  exact q
theorem zQ:ZY X (.builtin "len") (fun xs H Q=>∃p ys,xs=[.ref p]∧(SqL X.K H p ys∨SqT X.K H p ys)∧Q (.int ys.length) H):=by
 intro pins s σ H xs us Q I r h
 obtain ⟨p,ys,rfl,hq,q⟩:=h
 obtain ⟨u,rfl,rx⟩:=Jo r
 cases rx
 have hn:=QL
 rcases hq with hq | hq
 ·obtain ⟨its,r',pl,hz⟩:=I.list hq
  have hlen:=r'.length
  exact Calls.call_len_list pl.isList (by simp only [kG] <;> lia) ⟨.int ys.length,H,I.tok _,⟨s.toks+1,by rw [kG,hlen]⟩,q⟩
 ·obtain ⟨its,r',pl,hz⟩:=I.tuple hq
  have hlen:=r'.length
  exact len_tuple pl (by simp only [kG] <;> lia) ⟨.int ys.length,H,I.tok _,⟨s.toks+1,by rw [kG,hlen]⟩,q⟩
theorem z0J:ZY X (.builtin "len") (fun xs H Q=>∃z,xs=[.str z]∧z.length≤sizeLine∧Q (.int z.length) H):=by
 intro pins s σ H xs us Q I r h
 obtain ⟨z,rfl,hz,q⟩:=h
 obtain ⟨u,rfl,t,rfl⟩:=Jo r
 have hn:=QL
 exact len_str (by lia) ⟨.int z.length,H,I.tok _,⟨_,rfl⟩,q⟩
theorem jH:ZY X (.type "list") (fun xs H Q=>∃p ys,xs=[.ref p]∧(SqL X.K H p ys∨SqT X.K H p ys)∧∀l,H l=none→Q (.ref l) (upd H l (.lst ys))):=by
 intro pins s σ H xs us Q I r h
 obtain ⟨p,ys,rfl,hq,q⟩:=h
 obtain ⟨u,rfl,rx⟩:=Jo r
 cases rx
 have fin:∀(its:List Value),Vals ys its→ys.length≤sizeLine→∀(h':Heap) (c':Nat),(∀b o',s.heap.get? b=some o'→h'.get? b=some o')→
   h'.get? s.heap.objs.size=some { cls:=.type "list",dict:=none,data:=.seq its.toArray c',slots:=#[] }→EP X pins σ Q (.ref s.heap.objs.size) { s with heap:=h' }:=fun its r' hz h' c' kp e=>
  ⟨.ref s.heap.objs.size,_,I.laid (t':=s.toks) kp (ke _) (show qL X.prog X.w _ h' _ (.lst ys) from ⟨hz,its,c',r',e⟩),rfl,q _ (I.hok.fresh (ke _))⟩
 rcases hq with hq | hq
 ·obtain ⟨its,r',pl,hz⟩:=I.list hq
  have hlen:=r'.length
  obtain ⟨o,ho,hc,n,hd⟩:=pl.isList
  exact call_list_seq p (.inl rfl) ho hc hd (fun h' c' kp e=>fin its r' hz h' c' kp e) (by simp only [kG] <;> lia)
 ·obtain ⟨its,r',pl,hz⟩:=I.tuple hq
  have hlen:=r'.length
  obtain ⟨o,ho,hc,n,hd⟩:=pl
  exact call_list_seq p (.inr rfl) ho hc hd (fun h' c' kp e=>fin its r' hz h' c' kp e) (by simp only [kG] <;> lia)
def tyV (K:ky) (T:String) (x:V) (H:Hp):Prop:=match x with
 | .str _=>T="str"
 | .int _=>T="int"
 | .ref p=>(T="list"∧∃xs,SqL K H p xs)∨(T="tuple"∧∃o,K.lookup p=some o∧o.cls=.type "tuple"∧o.dict=none)∨
   (T="dict"∧((∃kvs,H p=some (.dK kvs))∨∃kvs,H p=some (.dT kvs)))∨(T="set"∧∃S n,H p=some (.set S n))
 | _=>False
theorem z5p {pins:List (Addr × Obj)} {σ:St} {H:Hp} {s:Shared} {T:String} {x:V} {v:Value} (I:Inv X pins σ H s) (r:RelV x v) (ty:tyV X.K T x H):
  s.TypeIs v T∧∀a,v=.ref a→∃ob,s.heap.get? a=some ob∧ob.dict=none:=by
 cases x with
 | str z=>
  obtain ⟨t,rfl⟩:=r
  cases (show T="str" from ty)
  exact ⟨typeIs_str s z t,fun _ e=>nomatch e⟩
 | int i=>
  obtain ⟨t,rfl⟩:=r
  cases (show T="int" from ty)
  exact ⟨typeIs_int s i t,fun _ e=>nomatch e⟩
 | ref p=>
  cases r
  rcases ty with ⟨rfl,xs,hq⟩ | ⟨rfl,o,hk,hc,hd⟩ | ⟨rfl,hk⟩ | ⟨rfl,S,n,hk⟩
  ·obtain ⟨its,_,pl,_⟩:=I.list hq
   refine ⟨pl.isList.typeIs,fun a e=>?_⟩
   cases e
   obtain ⟨o,n,e,c,hd,_⟩:=pl
   exact ⟨o,e,hd⟩
  ·refine ⟨⟨o,I.kIn p o hk,hc⟩,fun a e=>?_⟩
   cases e
   exact ⟨o,I.kIn _ o hk,hd⟩
  ·have z:∃o,s.heap.get? p=some o∧o.ExactDict:=by
    rcases hk with ⟨kvs,hk⟩ | ⟨kvs,hk⟩
    ·obtain ⟨_,_,_,_,o,_,_,e,ex,_⟩:=I.hok p _ hk
     exact ⟨o,e,ex⟩
    ·obtain ⟨_,_,_,_,o,_,_,e,ex,_⟩:=I.hok p _ hk
     exact ⟨o,e,ex⟩
   obtain ⟨o,e,ex⟩:=z
   refine ⟨⟨o,e,ex.1⟩,fun a e2=>?_⟩
   cases e2
   exact ⟨o,e,ex.2.1⟩
  ·obtain ⟨o,_,_,_,e,ex,_⟩:=I.hok p _ hk
   refine ⟨⟨o,e,ex.1⟩,fun a e2=>?_⟩
   cases e2
   exact ⟨o,e,ex.2.1⟩
 | _=>exact False.elim ty
def tBM0 (K:ky) (T:String) (r:V→List V→Hp→VK→Prop) (to:TE):TE:=fun σ H Q=>to σ H fun x H1=>tyV K T x H1∧r x [] H1 Q
def tBM (K:ky) (T:String) (r:V→List V→Hp→VK→Prop) (to:TE) (t:TA):TE:=fun σ H Q=>to σ H fun x H1=>tyV K T x H1∧t σ H1 fun xs H2=>r x xs H2 Q
variable {o e:Expr} {es:List Expr} {to:TE} {t:TA} {name:Str} {apos cpos:Pos} {T id:String} {r:V→List V→Hp→VK→Prop}
theorem z1H (pa:PlainAttrs T) (slot:Slot T name id) (hty:typeOf (.builtin id)=pure (.type "method_descriptor")) (hm:MtR X id r) (ho:PE X o to)
  (hbase:autoParam (attributeBase o name X.env (eval o X.env)=eval o X.env) aR._auto_1) (hline:autoParam ((apos.endLine == cpos.line)=true) aR._auto_1):PE X (.Call (.Attribute o name apos) [] [] cpos) (tBM0 X.K T r to):=by
 intro pins s σ H Q I h
 refine wpAny_Call_method0_late hbase hline (thn (ho pins s σ H _ I h) fun v s1 zz=>?_)
 obtain ⟨x,H1,I1,r1,ty,q1⟩:=zz
 obtain ⟨h1,h2⟩:=z5p I1 r1 ty
 exact ⟨T,id,pa,slot,hty,h1,h2,Calls.callWith_builtin rfl (PySem.evalArgs_none (hm pins s1 σ H1 x [] v [] Q I1 r1 .nil q1))⟩
theorem z80 (pa:PlainAttrs T) (slot:Slot T name id) (hty:typeOf (.builtin id)=pure (.type "method_descriptor")) (hm:MtR X id r) (ho:PE X o to) (ha:PA X (e :: es) t)
  (hbase:autoParam (attributeBase o name X.env (eval o X.env)=eval o X.env) aR._auto_1)
  (hfew:autoParam (((backTo cpos (starEach (e :: es) X.env)).all (fun x=> !x.1)&&(backToKw cpos (keywordEach [] X.env)).all (fun x=>x.1.isSome)
   &&decide ((e :: es).length+([]:List Keyword).length+(if ([]:List Keyword).isEmpty then 0 else 1) < 30))=true) aR._auto_1)
  (hline:autoParam ((apos.endLine == cpos.line)=true) aR._auto_1) (hs:autoParam (starEach (e :: es) X.env=(false,eval e X.env) :: starEach es X.env) aR._auto_1) (hplain:autoParam ((backTo cpos (starEach es X.env)).any (·.1)=false) aR._auto_1):
  PE X (.Call (.Attribute o name apos) (e :: es) [] cpos) (tBM X.K T r to t):=by
 intro pins s σ H Q I h
 refine wpAny_Call_method_late hbase hfew hline rfl (thn (ho pins s σ H _ I h) fun v s1 zz=>?_)
 obtain ⟨x,H1,I1,r1,ty,q1⟩:=zz
 obtain ⟨h1,h2⟩:=z5p I1 r1 ty
 refine ⟨T,id,pa,slot,hty,h1,h2,?_⟩
 have hA:=ha cpos pins s1 σ H1 _ I1 q1
 rw [hs] at hA ⊢
 refine Calls.callWith_builtin (by show (false||(backTo cpos (starEach es X.env)).any (·.1))=false;rw [hplain] <;> rfl) (Calls.evalArgs_plain ?_)
 exact thn hA fun us s2 ⟨vs,H2,I2,r2,q2⟩=>hm pins s2 σ H2 x vs v us Q I2 r1 r2 q2
end
end L2
namespace L2
open PySem PySem.Spec PyProof.Rows
def MtM (X:Cx) (id:String) (r:V→List V→Hp→VK→Prop):Prop:=
 ∀(pins:List (Addr × Obj)) (s:Shared) (σ:St) (H:Hp) (x:V) (xs:List V) (v:Value) (us:List Value) (Q:VK),Inv X pins σ H s→RelV x v→Vals xs us→r x xs H Q→
  wpAny (model X.prog X.w) X.A (call (.builtin id) (v :: us)) (EP X pins σ Q) X.xe s
theorem Vals.one:∀{x:V} {us:List Value},Vals [x] us→∃u,us=[u]∧RelV x u
 | _,_,.cons r .nil=>⟨_,rfl,r⟩
theorem Vals.zero:∀{us:List Value},Vals [] us→us=[]
 | _,.nil=>rfl
theorem Vals.dropLast {xs:List V} {us:List Value} (h:Vals xs us):Vals xs.dropLast us.dropLast:=by
 induction h with
 | nil=>exact .nil
 | cons r t ih=>
  cases t with
  | nil=>exact .nil
  | cons q t'=>exact .cons r ih
theorem Vals.eraseIdx:∀{xs:List V} {us:List Value} (i:Nat),Vals xs us→Vals (xs.eraseIdx i) (us.eraseIdx i)
 | _,_,_,.nil=>.nil
 | _,_,0,.cons _ t=>t
 | _,_,i+1,.cons r t=>.cons r (Vals.eraseIdx i t)
theorem Vals.rep {xs:List V} {us:List Value} (h:Vals xs us):∀k:Nat,Vals (List.replicate k xs).flatten (List.replicate k us).flatten
 | 0=>.nil
 | k+1=>by
  rw [List.replicate_succ,List.replicate_succ,List.flatten_cons,List.flatten_cons]
  exact Vals.append h (Vals.rep h k)
theorem z2z {α:Type} (l:List α):l.eraseIdx (l.length - 1)=l.dropLast:=by
 induction l with
 | nil=>rfl
 | cons a r ih=>
  cases r with
  | nil=>rfl
  | cons b r=>
   have e:(a :: b :: r).length - 1=((b :: r).length - 1)+1:=by
    have h1:(a :: b :: r).length=r.length+2:=rfl
    have h2:(b :: r).length=r.length+1:=rfl
    lia
   rw [e,List.eraseIdx_cons_succ,ih]
   all_goals rfl
theorem z0r {α:Type}:∀(l:List α) (i:Nat),(l.eraseIdx i).length≤l.length
 | [],_=>ke _
 | _ :: _,0=>Nat.le_succ _
 | _ :: r,i+1=>Nat.succ_le_succ (z0r r i)
theorem z0A (its:List Value):∀(k:Nat) (acc:List Value),
  List.foldl (fun x1 x2=>x1++x2) acc.toArray (List.replicate k its.toArray)=(acc++(List.replicate k its).flatten).toArray
 | 0,acc=>by simp
 | k+1,acc=>by
  have e:acc.toArray++its.toArray=(acc++its).toArray:=by simp
  have e2:(acc++its)++(List.replicate k its).flatten=acc++(List.replicate (k+1) its).flatten:=by
   rw [List.replicate_succ,List.flatten_cons,kZ]
  rw [←e2,←z0A its k (acc++its),←e,List.replicate_succ,List.foldl_cons]
section
variable {X:Cx} {pins:List (Addr × Obj)} {σ:St} {H:Hp} {s:Shared} {l b:Addr} {xs ys zs:List V}
theorem Inv.lset {its its':List Value} {n:Nat} {f:Array Value→Array Value} {t':Nat} (I:Inv X pins σ H s) (hH:H l=some (.lst xs))
  (e:s.heap.get? l=some { cls:=.type "list",data:=.seq its.toArray n }) (hf:f its.toArray=its'.toArray) (hv:Vals ys its') (hz:ys.length≤sizeLine):
  Inv X pins σ (upd H l (.lst ys)) { s with heap:=s.heap.update l (Obj.mapSeq f),toks:=t' }:=by
 have q:=PySem.IsL.update e f
 rw [hf] at q
 refine I.write (x:=l) (e:=l) (by rw [hH];exact trivial) (.inl rfl) (fun b' u hb hu=>(Heap.get?_update_other s.heap (Obj.mapSeq f) (Ne.symm hb)).trans hu) ⟨_,q⟩ ?_
 exact ⟨hz,its',_,hv,q⟩
theorem Inv.lnew {its:List Value} {t':Nat} (I:Inv X pins σ H s) (hv:Vals ys its) (hz:ys.length≤sizeLine):
  Inv X pins σ (upd H s.heap.objs.size (.lst ys)) { s with heap:=s.heap.push { cls:=.type "list",data:=.seq its.toArray },toks:=t' }:=
 I.laid (fun _ _ q=>Heap.get?_push_of_some _ q) (ke _) ⟨hz,its,0,hv,Heap.get?_push_size _ rfl⟩
theorem Inv.fresh (I:Inv X pins σ H s):H s.heap.objs.size=none:=I.hok.fresh (ke _)
theorem Inv.lstM (I:Inv X pins σ H s) (hH:H l=some (.lst xs)):xs.length≤sizeLine∧∃(its:List Value) (n:Nat),Vals xs its∧xs.length=its.length∧s.heap.get? l=some { cls:=.type "list",data:=.seq its.toArray n }:=by
 obtain ⟨z,its,n,r,e⟩:=I.hok l _ hH
 exact ⟨z,its,n,r,r.length,e⟩
theorem z4y {n:Nat} (h:n≤sizeLine):Builtin.List.listTooLong n=false:=by
 unfold Builtin.List.listTooLong
 exact kh (by lia)
end
section
variable {X:Cx}
def z13:V→List V→Hp→VK→Prop:=fun x vs H Q=>∃l xs y,x=.ref l∧vs=[y]∧H l=some (.lst xs)∧xs.length < sizeLine∧Q .non (upd H l (.lst (xs++[y])))
theorem z3l:MtM X "list.append" z13:=by
 intro pins s σ H x vs v us Q I rx rv h
 obtain ⟨l,xs,y,rfl,rfl,hH,hz,q⟩:=h
 cases rx
 obtain ⟨u,rfl,ru⟩:=rv.one
 obtain ⟨z,its,n,r,hl,e⟩:=I.lstM hH
 refine call_meets F.slot_list_append ⟨_,e,rfl⟩ F.entry_list_append (F.args_list_append_2 _ _) (PySem.list_append l its.toArray n u (by rw [kG];lia)) ⟨e,?_⟩
 refine ⟨.non,_,I.lset (its':=its++[u]) hH e (by simp) (r.append (.cons ru .nil)) ?_,rfl,q⟩
 rw [kl,kH]
 lia
def rPop:V→List V→Hp→VK→Prop:=fun x vs H Q=>∃l xs y,x=.ref l∧vs=[]∧H l=some (.lst xs)∧xs[xs.length - 1]?=some y∧Q y (upd H l (.lst xs.dropLast))
theorem z87:MtM X "list.pop" rPop:=by
 intro pins s σ H x vs v us Q I rx rv h
 obtain ⟨l,xs,y,rfl,rfl,hH,hy,q⟩:=h
 cases rx
 have hus:=rv.zero
 subst hus
 obtain ⟨z,its,n,r,hl,e⟩:=I.lstM hH
 obtain ⟨u,hu,ru⟩:=r.get hy
 have hy':its.toArray[its.toArray.size - 1]?=some u:=by
  show its.toArray[its.length - 1]?=some u
  rw [←Array.getElem?_toList,←hl]
  exact hu
 refine call_meets F.slot_list_pop ⟨_,e,rfl⟩ F.entry_list_pop (F.args_list_pop_1 _) (MeetsSeq.list_pop_last l its.toArray n u hy' (by rw [kG];lia)) ⟨e,?_⟩
 refine ⟨y,_,I.lset (its':=its.dropLast) hH e ?_ r.dropLast ?_,ru,q⟩
 ·show its.toArray.eraseIdxIfInBounds (its.toArray.size - 1)=its.dropLast.toArray
  rw [kG,List.eraseIdxIfInBounds_toArray,z2z]
 ·rw [List.length_dropLast]
  lia
def z7T:V→List V→Hp→VK→Prop:=fun x vs H Q=>∃l xs i k y,x=.ref l∧vs=[.int i]∧H l=some (.lst xs)∧-(2 ^ 63)≤i∧i < 2 ^ 63∧seqIndex? i xs.length=some k∧xs[k]?=some y∧Q y (upd H l (.lst (xs.eraseIdx k)))
theorem z4A:MtM X "list.pop" z7T:=by
 intro pins s σ H x vs v us Q I rx rv h
 obtain ⟨l,xs,i,k,y,rfl,rfl,hH,h1,h2,hk,hy,q⟩:=h
 cases rx
 obtain ⟨u,rfl,ru⟩:=rv.one
 obtain ⟨t,rfl⟩:=ru
 obtain ⟨z,its,n,r,hl,e⟩:=I.lstM hH
 obtain ⟨w,hw,rw'⟩:=r.get hy
 refine call_meets F.slot_list_pop ⟨_,e,rfl⟩ F.entry_list_pop (F.args_list_pop_2 _ _)
  (MeetsSeq.list_pop_at l its.toArray n i t k w (fitsIndex_both h1 h2) (by rw [kG,←hl];exact hk) (by rw [←Array.getElem?_toList];exact hw) (by rw [kG];lia)) ⟨e,?_⟩
 refine ⟨y,_,I.lset (its':=its.eraseIdx k) hH e ?_ (r.eraseIdx k) ?_,rw',q⟩
 ·show its.toArray.eraseIdxIfInBounds k=(its.eraseIdx k).toArray
  rw [List.eraseIdxIfInBounds_toArray]
 ·have:=z0r xs k
  lia
def rCat:R2:=fun x y H Q=>∃l b xs zs,x=.ref l∧y=.ref b∧H l=some (.lst xs)∧H b=some (.lst zs)∧xs.length+zs.length≤sizeLine∧∀p,H p=none→Q (.ref p) (upd H p (.lst (xs++zs)))
theorem z3f:OpR X (binaryOp .Add) rCat:=by
 intro pins s σ H x y v u Q I rx ry h
 obtain ⟨l,b,xs,zs,rfl,rfl,hH,hB,hz,q⟩:=h
 cases rx
 cases ry
 obtain ⟨z,its,n,r,hl,e⟩:=I.lstM hH
 obtain ⟨z2,its2,n2,r2,hl2,e2⟩:=I.lstM hB
 refine PySem.P.add_list e e2 ?_ (by rw [kG,kG];lia)
 have ea:its.toArray++its2.toArray=(its++its2).toArray:=by simp
 rw [ea]
 exact ⟨.ref _,_,I.lnew (t':=s.toks) (r.append r2) (by rw [kl];lia),rfl,q _ I.fresh⟩
def rRep:R2:=fun x y H Q=>∃l k xs,x=.ref l∧y=.int k∧H l=some (.lst xs)∧-(2 ^ 63)≤k∧k < 2 ^ 63∧xs.length * k.toNat≤sizeLine∧
 ∀p,H p=none→Q (.ref p) (upd H p (.lst (List.replicate k.toNat xs).flatten))
theorem z6v {α:Type} (xs:List α) (k:Nat):(List.replicate k xs).flatten.length=k * xs.length:=by
 induction k with
 | zero=>simp
 | succ k ih=>rw [List.replicate_succ,List.flatten_cons,kl,ih,Nat.succ_mul,Nat.add_comm]
theorem z82:OpR X (binaryOp .Mult) rRep:=by
 intro pins s σ H x y v u Q I rx ry h
 obtain ⟨l,k,xs,rfl,rfl,hH,h1,h2,hz,q⟩:=h
 cases rx
 obtain ⟨t,rfl⟩:=ry
 obtain ⟨z,its,n,r,hl,e⟩:=I.lstM hH
 have hlen:its.toArray.size * k.toNat≤sizeLine:=by rw [kG,←hl];exact hz
 have hcap:¬its.toArray.size * k.toNat > (2 ^ 63 - 1) / 8:=by
  have:(sizeLine:Nat)≤(2 ^ 63 - 1) / 8:=by decide
  lia
 have hfit:¬(!Builtin.List.listFitsIndex k)=true:=by
  rw [fitsIndex_both h1 h2]
  exact ka
 have hlong:¬Builtin.List.listTooLong (its.toArray.size * k.toNat)=true:=by
  rw [z4y hlen]
  exact ka
 have hnew:List.foldl (fun x1 x2=>x1++x2) #[] (List.replicate (if its.toArray.isEmpty=true then 0 else k.toNat) its.toArray)=(List.replicate k.toNat its).flatten.toArray:=by
  have f0:∀m:Nat,List.foldl (fun x1 x2=>x1++x2) #[] (List.replicate m its.toArray)=(List.replicate m its).flatten.toArray:=fun m=>by
   have:=z0A its m []
   rw [List.nil_append] at this
   exact this
  rw [f0]
  cases its with
  | nil=>simp
  | cons a r'=>rw [kz (by simp)]
 refine wpAny_binaryOp_repeat_ref (T:="list") (U:="int") (by decide) ⟨_,e,rfl⟩ (fun s'=>typeIs_int s' k t) noFill_list_mul F.fills_int_mul F.slot_int_rmul repeat_list F.slot_int_index.lookup
  (call_meets F.slot_int_rmul (typeIs_int s k t) F.entry_int_rmul (F.args_int_rmul_2 _ _) (int___rmul___int_list k t l its.toArray n)
   ⟨e,rfl,⟨_,e,rfl⟩,call_meets F.slot_list_mul ⟨_,e,rfl⟩ F.entry_list_mul (F.args_list_mul_2 _ _) (AutoListH.list___mul___list_int_3 l its.toArray n k t hfit hcap hlong) ⟨e,?_⟩⟩)
 rw [hnew]
 exact ⟨.ref _,_,I.lnew (t':=s.toks) (r.rep k.toNat) (by rw [z6v,Nat.mul_comm];exact hz),rfl,q _ I.fresh⟩
end
section
variable {prog:Program} {w:World} {A:Around} {E:Value→Shared→Prop} {s:Shared}
set_option maxRecDepth 100000 in
end
section
variable {X:Cx}
end
end L2
namespace L2
open PySem PySem.Spec PyProof.Rows
section
variable {κ:Type} [DecidableEq κ]
noncomputable def valV (kvs:List (κ × V)) (k:κ):Option V:=(kvs.find? fun kv=>decide (kv.1=k)).map (·.2)
noncomputable def putK (kvs:List (κ × V)) (k:κ) (v:V):List (κ × V):=
 if (kvs.any fun kv=>decide (kv.1=k))=true then kvs.map (fun kv=>if kv.1=k then (kv.1,v) else kv) else kvs++[(k,v)]
noncomputable def z1n (kvs:List (κ × V)) (k:κ):List (κ × V):=kvs.filter fun kv=>decide (kv.1≠k)
theorem qX {p:κ × V} {r:List (κ × V)} {k:κ} (e:p.1=k):valV (p :: r) k=some p.2:=by simp [valV,List.find?_cons,e]
theorem qY {p:κ × V} {r:List (κ × V)} {k:κ} (e:¬p.1=k):valV (p :: r) k=valV r k:=by simp [valV,List.find?_cons,e]
theorem Qo (k:κ):∀kvs:List (κ × V),(kvs.any fun kv=>decide (kv.1=k))=(valV kvs k).isSome
 | []=>rfl
 | p :: r=>by
  rw [List.any_cons]
  by_cases e:p.1=k
  ·simp only [qX e,ki e,Bool.true_or,Option.isSome_some]
  ·rw [qY e,kh e,Bool.false_or];exact Qo k r
theorem z1r (k j:κ) (y:V):∀kvs:List (κ × V),valV (kvs.map fun kv=>if kv.1=k then (kv.1,y) else kv) j=(valV kvs j).map fun x=>if j=k then y else x
 | []=>rfl
 | p :: r=>by
  have ih:=z1r k j y r
  rw [kX]
  by_cases h:p.1=k
  ·rw [kC h]
   by_cases e:p.1=j
   ·rw [qX (p:=(p.1,y)) e,qX e,Option.map_some,kC (e.symm.trans h)]
   ·rw [qY (p:=(p.1,y)) e,qY e,ih]
  ·rw [kz h]
   by_cases e:p.1=j
   ·rw [qX (p:=p) e,qX e,Option.map_some,kz (fun z=>h (e.trans z))]
   ·rw [qY (p:=p) e,qY e,ih]
theorem z06 (k j:κ) (y:V):∀kvs:List (κ × V),valV kvs k=none→valV (kvs++[(k,y)]) j=if j=k then some y else valV kvs j
 | [],_=>by
  by_cases e:k=j
  ·rw [kC e.symm];exact qX (p:=(k,y)) e
  ·rw [kz (fun z=>e z.symm)];exact qY (p:=(k,y)) e
 | p :: r,hn=>by
  rw [List.cons_append]
  have hk:¬p.1=k:=fun z=>by rw [qX z] at hn;cases hn
  rw [qY hk] at hn
  have ih:=z06 k j y r hn
  by_cases e:p.1=j
  ·rw [qX e,qX e,kz (fun z=>hk (e.trans z))]
  ·rw [qY e,qY e,ih]
theorem Qn (kvs:List (κ × V)) (k j:κ) (y:V):valV (putK kvs k y) j=if j=k then some y else valV kvs j:=by
 unfold putK
 by_cases a:(kvs.any fun kv=>decide (kv.1=k))=true
 ·rw [kC a,z1r]
  rw [Qo] at a
  by_cases e:j=k
  ·obtain ⟨x,hx⟩:=Option.isSome_iff_exists.mp a
   rw [kC e,e,hx,Option.map_some,kC rfl]
  ·rw [kz e]
   cases valV kvs j with
   | none=>rfl
   | some x=>rw [Option.map_some,kz e]
 ·rw [kz a]
  refine z06 k j y kvs ?_
  rw [Qo] at a
  cases q:valV kvs k with
  | none=>rfl
  | some x=>rw [q] at a;exact (a rfl).elim
theorem qS (kvs:List (κ × V)) (k:κ) (v:V):(putK kvs k v).length≤kvs.length+1:=by
 unfold putK
 split
 ·rw [kj];lia
 ·rw [kl,kQ,List.length_nil];lia
theorem RelO.isSome_eq {o:Option V} {u:Option Value} (r:RelO o u):o.isSome=u.isSome:=by
 cases o with
 | none=>cases u with
  | none=>rfl
  | some _=>exact (show False from r).elim
 | some _=>cases u with
  | none=>exact (show False from r).elim
  | some _=>rfl
theorem RelO.getD {o:Option V} {u:Option Value} {d:V} {d':Value} (r:RelO o u) (rd:RelV d d'):RelV (o.getD d) (u.getD d'):=by
 cases o with
 | none=>cases u with
  | none=>exact rd
  | some _=>exact (show False from r).elim
 | some _=>cases u with
  | none=>exact (show False from r).elim
  | some _=>exact r
theorem KV.val {kvs:List (κ × V)} {vs:List (κ × Value)} (r:KV kvs vs) (k:κ):RelO (valV kvs k) (valueAt vs k):=by
 unfold KV at r
 induction r with
 | nil=>exact True.intro
 | @cons p q ps qs h t ih=>
  obtain ⟨h1,h2⟩:=h
  by_cases e:p.1=k
  ·have e':q.1=k:=h1.symm.trans e
   have b:valueAt (q :: qs) k=some q.2:=by simp [valueAt,List.find?_cons,e']
   rw [qX e,b];exact h2
  ·have e':¬q.1=k:=fun z=>e (h1.trans z)
   have b:valueAt (q :: qs) k=valueAt qs k:=by simp [valueAt,List.find?_cons,e']
   rw [qY e,b];exact ih
theorem KV.any {kvs:List (κ × V)} {vs:List (κ × Value)} (r:KV kvs vs) (k:κ):(kvs.any fun kv=>decide (kv.1=k))=vs.any fun kv=>decide (kv.1=k):=by
 unfold KV at r
 induction r with
 | nil=>rfl
 | cons h t ih=>rw [List.any_cons,List.any_cons,ih,h.1]
theorem KV.repl {kvs:List (κ × V)} {vs:List (κ × Value)} (r:KV kvs vs) (k:κ) {y:V} {u:Value} (ry:RelV y u):
  KV (kvs.map fun kv=>if kv.1=k then (kv.1,y) else kv) (vs.map fun kv=>if kv.1=k then (kv.1,u) else kv):=by
 unfold KV at r ⊢
 induction r with
 | nil=>exact .nil
 | @cons p q ps qs h t ih=>
  rw [kX,kX]
  refine .cons ?_ ih
  obtain ⟨h1,h2⟩:=h
  by_cases e:p.1=k
  ·rw [kC e,kC (h1.symm.trans e)];exact ⟨h1,ry⟩
  ·rw [kz e,kz (fun z=>e (h1.trans z))];exact ⟨h1,h2⟩
theorem KV.put {kvs:List (κ × V)} {vs:List (κ × Value)} (r:KV kvs vs) (k:κ) {y:V} {u:Value} (ry:RelV y u):KV (putK kvs k y) (stored vs k u):=by
 unfold putK stored
 rw [r.any k]
 by_cases e:(vs.any fun kv=>decide (kv.1=k))=true
 ·rw [kC e,kC e];exact r.repl k ry
 ·rw [kz e,kz e];exact Paired.snoc r ⟨rfl,ry⟩
theorem KV.drop {kvs:List (κ × V)} {vs:List (κ × Value)} (r:KV kvs vs) (k:κ):KV (z1n kvs k) (without vs k):=by
 unfold KV at r ⊢
 unfold z1n without
 induction r with
 | nil=>exact .nil
 | @cons p q ps qs h t ih=>
  obtain ⟨h1,h2⟩:=h
  rw [List.filter_cons,List.filter_cons]
  by_cases e:p.1=k
  ·have a:¬decide (p.1≠k)=true:=by simp [e]
   have b:¬decide (q.1≠k)=true:=by simp [h1.symm.trans e]
   rw [kz a,kz b];exact ih
  ·have e':¬q.1=k:=fun z=>e (h1.trans z)
   have a:decide (p.1≠k)=true:=by simp [e]
   have b:decide (q.1≠k)=true:=by simp [e']
   rw [kC a,kC b];exact .cons ⟨h1,h2⟩ ih
theorem KV.length {kvs:List (κ × V)} {vs:List (κ × Value)} (r:KV kvs vs):kvs.length=vs.length:=Paired.length r
theorem z5d (kvs:List (κ × V)) (k:κ):(z1n kvs k).length≤kvs.length:=List.length_filter_le _ _
end
theorem JJ {P:Program} {w:World} {k:Key} {u:Value} (r:RelV (kV k) u):(qd P w).is k u=true:=by
 cases k with
 | inl i=>obtain ⟨t,e⟩:=(show ∃t,u=Value.int i t from r);subst e;exact z1d P w i t
 | inr x=>obtain ⟨t,e⟩:=(show ∃t,u=Value.str x t from r);subst e;exact z1c P w x t
theorem z0w {P:Program} {w:World}:∀{ks:List Key} {us:List Value},Vals (ks.map kV) us→ItemsAre (qd P w) ks us
 | [],_,r=>by rw [List.map_nil] at r;cases r;exact .nil
 | k :: ks,_,r=>by
  rw [kX] at r
  cases r with
  | cons h t=>exact .cons (JJ h) (z0w t)
abbrev KT (H:Hp):List (List Key × V)→List (List Key × Addr × Value)→Prop:=Paired fun p q=>p.1=q.1∧H q.2.1=some (.tup (p.1.map kV))∧RelV p.2 q.2.2
theorem KT.val {H:Hp} {kvs:List (List Key × V)} {xs:List (List Key × Addr × Value)} (r:KT H kvs xs) (k:List Key):RelO (valV kvs k) ((atKey xs k).map (·.2)):=by
 induction r with
 | nil=>exact True.intro
 | @cons p q ps qs h t ih=>
  obtain ⟨h1,_,h2⟩:=h
  by_cases e:p.1=k
  ·have e':q.1=k:=h1.symm.trans e
   have b:atKey (q :: qs) k=some q.2:=by simp [atKey,List.find?_cons,e']
   rw [qX e,b];exact h2
  ·have e':¬q.1=k:=fun z=>e (h1.trans z)
   have b:atKey (q :: qs) k=atKey qs k:=by simp [atKey,List.find?_cons,e']
   rw [qY e,b];exact ih
theorem KT.repl {H:Hp} {kvs:List (List Key × V)} {xs:List (List Key × Addr × Value)} (r:KT H kvs xs) (k:List Key) {y:V} {u:Value} (ry:RelV y u):
  KT H (kvs.map fun kv=>if kv.1=k then (kv.1,y) else kv) (xs.map (putAt k u)):=by
 induction r with
 | nil=>exact .nil
 | @cons p q ps qs h t ih=>
  rw [kX,kX]
  refine .cons ?_ ih
  obtain ⟨h1,h2,h3⟩:=h
  unfold putAt
  by_cases e:p.1=k
  ·rw [kC e,kC (h1.symm.trans e)];exact ⟨h1,h2,ry⟩
  ·rw [kz e,kz (fun z=>e (h1.trans z))];exact ⟨h1,h2,h3⟩
theorem KT.put {H:Hp} {kvs:List (List Key × V)} {xs:List (List Key × Addr × Value)} (r:KT H kvs xs) (k:List Key) {b:Addr} {y:V} {u:Value} (hb:H b=some (.tup (k.map kV))) (ry:RelV y u):
  KT H (putK kvs k y) (storedH xs k b u):=by
 have e:(kvs.any fun kv=>decide (kv.1=k))=(atKey xs k).isSome:=by
  rw [Qo,(r.val k).isSome_eq,Option.isSome_map]
 unfold putK storedH
 rw [e]
 by_cases q:(atKey xs k).isSome=true
 ·rw [kC q,kC q];exact r.repl k ry
 ·rw [kz q,kz q];exact Paired.snoc r ⟨rfl,hb,ry⟩
theorem KT.keeps {H H':Hp} {kvs:List (List Key × V)} {xs:List (List Key × Addr × Value)} (r:KT H kvs xs) (ht:∀b ys,H b=some (.tup ys)→H' b=some (.tup ys)):KT H' kvs xs:=
 Paired.mapP r fun _ _ z=>⟨z.1,ht _ _ z.2.1,z.2.2⟩
section
variable {P:Program} {w:World} {H:Hp} {h:Heap} {a:Addr}
theorem z7S {u:HO} (ok:HOk P w H h) (e:Rd H a u):qL P w H h a u:=e.ok ok
theorem JU {kvs:List (Key × V)} (ok:HOk P w H h) (e:Rd H a (.dK kvs)):kvs.length≤sizeLine∧(a == sysModules)=false∧∃vs,KV kvs vs∧h.DictOf (qd P w) a vs:=
 show qL P w H h a (.dK kvs) from z7S ok e
theorem z2A {kvs:List (Key × V)} (ok:HOk P w H h) (e:H a=some (.dK kvs)):kvs.length≤sizeLine∧(a == sysModules)=false∧∃vs,KV kvs vs∧h.DictOf (qd P w) a vs:=JU ok (.inl e)
theorem Ja {ks:List Key} (ok:HOk P w H h) (e:H a=some (.tup (ks.map kV))):(tupleKind (qd P w)).is h ks a:=by
 obtain ⟨_,its,r,o,h1,h2,n,h3⟩:=(show qL P w H h a (.tup (ks.map kV)) from ok a _ e)
 exact ⟨o,its.toArray,n,h1,h2,h3,by simpa using z0w r⟩
theorem z1m {kvs:List (List Key × V)} (ok:HOk P w H h) (e:Rd H a (.dT kvs)):kvs.length≤sizeLine∧(a == sysModules)=false∧
  ∃xs,KT H kvs xs∧h.DictOfH (tupleKind (qd P w)) a xs:=by
 obtain ⟨z,y,xs,r,o,es,ep,h1,h2,h3,h4,h5⟩:=(show qL P w H h a (.dT kvs) from z7S ok e)
 refine ⟨z,y,xs,r,o,es,ep,h1,h2,h3,h4,fun x hx=>?_,h5⟩
 have all:∀{l:List (List Key × V)} {m:List (List Key × Addr × Value)},KT H l m→∀x∈m,(tupleKind (qd P w)).is h x.1 x.2.1:=by
  intro l m q
  induction q with
  | nil=>intro x hx;exact nomatch hx
  | @cons p q ps qs hq t ih=>
   intro x hx
   rcases kF.mp hx with e | hx
   ·subst e
    exact Ja ok (by rw [←hq.1];exact hq.2.1)
   ·exact ih x hx
 exact all r x hx
theorem z9T {kvs:List (List Key × V)} (ok:HOk P w H h) (e:H a=some (.dT kvs)):kvs.length≤sizeLine∧(a == sysModules)=false∧
  ∃xs,KT H kvs xs∧h.DictOfH (tupleKind (qd P w)) a xs:=z1m ok (.inl e)
end
def DGet (H:Hp) (a:Addr) (y:V) (r:Option V):Prop:=
 (∃kvs k,Rd H a (.dK kvs)∧y=kV k∧r=valV kvs k)∨∃kvs k b,Rd H a (.dT kvs)∧y=.ref b∧H b=some (.tup (k.map kV))∧r=valV kvs k
def DPut (H:Hp) (a:Addr) (y v:V) (H':Hp):Prop:=
 (∃kvs k,H a=some (.dK kvs)∧y=kV k∧kvs.length < sizeLine∧H'=upd H a (.dK (putK kvs k v)))∨
 ∃kvs k b,H a=some (.dT kvs)∧y=.ref b∧H b=some (.tup (k.map kV))∧kvs.length < sizeLine∧H'=upd H a (.dT (putK kvs k v))
theorem DGet.k {H:Hp} {a:Addr} {kvs:List (Key × V)} {k:Key} (e:H a=some (.dK kvs)):DGet H a (kV k) (valV kvs k):=.inl ⟨kvs,k,.inl e,rfl,rfl⟩
theorem DPut.k {H:Hp} {a:Addr} {kvs:List (Key × V)} {k:Key} {v:V} (e:H a=some (.dK kvs)) (hl:kvs.length < sizeLine):DPut H a (kV k) v (upd H a (.dK (putK kvs k v))):=.inl ⟨kvs,k,e,rfl,hl,rfl⟩
section
variable {X:Cx} {pins:List (Addr × Obj)} {σ:St} {H:Hp} {s:Shared} {a:Addr} {y v:V} {u r:Value} {o:Option V} {A:Around} {E:Value→Shared→Prop}
theorem Inv.big (I:Inv X pins σ H s):sysModules < s.heap.objs.size:=by
 have h:mainGlobals < s.heap.objs.size:=(I.mod.glob.keeps I.bk).lt
 exact Nat.lt_trans (by decide) h
theorem z3V {Q:Value→Shared→Prop} (hu:A.units+1 < cLine) (I:Inv X pins σ H s) (g:DGet H a y (some v)) (ry:RelV y u) (h:∀w' s',Inv X pins σ H s'→RelV v w'→Q w' s'):
  wpAny (model X.prog X.w) A (getItem (.ref a) u) Q E s:=by
 rcases g with ⟨kvs,k,e,ey,l⟩ | ⟨kvs,k,b,e,ey,eb,l⟩
 ·subst ey
  obtain ⟨z,hd,vs,rel,dd⟩:=JU I.hok e
  obtain ⟨w',hw,rw'⟩:=RelO.some_of (v:=v) (o:=valueAt vs k) (by rw [l];exact rel.val k)
  exact wpAny_getItem_of (JJ ry) dd.mapOf hw (h w' _ (I.tok _) rw')
 ·subst ey
  cases (show u=Value.ref b from ry)
  obtain ⟨z,hd,xs,rel,dd⟩:=z1m I.hok e
  obtain ⟨w',hw,rw'⟩:=RelO.some_of (v:=v) (o:=(atKey xs k).map (·.2)) (by rw [l];exact rel.val k)
  obtain ⟨p,hp,hp2⟩:=Option.map_eq_some_iff.mp hw
  refine wpAny_getItem_heap (tupleKind_room_in1 hu) (Ja I.hok eb) dd hp ?_
  rw [hp2]
  exact h w' _ (I.tok _) rw'
theorem d_in {Q:Value→Shared→Prop} (hu:A.units+1 < cLine) (I:Inv X pins σ H s) (g:DGet H a y o) (ry:RelV y u) (h:∀s',Inv X pins σ H s'→Q (.bool o.isSome) s'):
  wpAny (model X.prog X.w) A (compareOp .In u (.ref a)) Q E s:=by
 rcases g with ⟨kvs,k,e,ey,l⟩ | ⟨kvs,k,b,e,ey,eb,l⟩
 ·subst ey
  obtain ⟨z,hd,vs,rel,dd⟩:=JU I.hok e
  refine wpAny_in_of (JJ ry) hd dd.mapOf ?_
  rw [←(rel.val k).isSome_eq,←l]
  exact h _ (I.tok _)
 ·subst ey
  cases (show u=Value.ref b from ry)
  obtain ⟨z,hd,xs,rel,dd⟩:=z1m I.hok e
  refine wpAny_in_heap (tupleKind_room_in1 hu) (Ja I.hok eb) hd dd ?_
  have q:=(rel.val k).isSome_eq
  rw [Option.isSome_map] at q
  rw [←q,←l]
  exact h _ (I.tok _)
theorem z7d {Q:Value→Shared→Prop} (hu:A.units+1 < cLine) (I:Inv X pins σ H s) (g:DGet H a y o) (ry:RelV y u) (h:∀s',Inv X pins σ H s'→Q (.bool (!o.isSome)) s'):
  wpAny (model X.prog X.w) A (compareOp .NotIn u (.ref a)) Q E s:=by
 rcases g with ⟨kvs,k,e,ey,l⟩ | ⟨kvs,k,b,e,ey,eb,l⟩
 ·subst ey
  obtain ⟨z,hd,vs,rel,dd⟩:=JU I.hok e
  refine wpAny_notIn_of (JJ ry) hd dd.mapOf ?_
  rw [←(rel.val k).isSome_eq,←l]
  exact h _ (I.tok _)
 ·subst ey
  cases (show u=Value.ref b from ry)
  obtain ⟨z,hd,xs,rel,dd⟩:=z1m I.hok e
  refine wpAny_notIn_heap (tupleKind_room_in1 hu) (Ja I.hok eb) hd dd ?_
  have q:=(rel.val k).isSome_eq
  rw [Option.isSome_map] at q
  rw [←q,←l]
  exact h _ (I.tok _)
theorem QR {h':Heap} {t':Nat} {ob:HO} (I:Inv X pins σ H s) (mu:Mut (H a)) (hs:Heap.SameBut a s.heap h') (he:∃q,h'.get? a=some q) (new:qL X.prog X.w (upd H a ob) h' a ob):
  Inv X pins σ (upd H a ob) { s with heap:=h',toks:=t' }:=
 I.write (x:=a) (e:=a) mu (.inl rfl) (fun b q hb z=>(hs.2 b hb).trans z) he new
theorem z0F {P:Program} {w:World} {H':Hp} {h':Heap} {kvs:List (Key × V)} {vs:List (Key × Value)} (z:kvs.length≤sizeLine) (hd:(a == sysModules)=false) (rel:KV kvs vs) (dd:h'.DictOf (qd P w) a vs):
  qL P w H' h' a (.dK kvs):=⟨z,hd,vs,rel,dd⟩
theorem z3U {H':Hp} {Q:Unit→Shared→Prop} (hu:A.units+1 < cLine) (I:Inv X pins σ H s) (g:DPut H a y v H') (ry:RelV y u) (rv:RelV v r) (h:∀s',Inv X pins σ H' s'→Q () s'):
  wpAny (model X.prog X.w) A (setItem (.ref a) u r) Q E s:=by
 rcases g with ⟨kvs,k,e,ey,l,eH⟩ | ⟨kvs,k,b,e,ey,eb,l,eH⟩
 ·subst ey eH
  obtain ⟨z,hd,vs,rel,dd⟩:=z2A I.hok e
  have hz:vs.length≤sizeLine:=by rw [←rel.length];exact z
  have hl:(putK kvs k v).length≤sizeLine:=by have:=qS kvs k v;lia
  refine wpAny_setItem_pairs (hsz:=hz) (JJ ry) dd fun h' dd' hs=>h _ ?_
  have he:∃q,h'.get? a=some q:=let ⟨q,_,_,hq,_⟩:=dd';⟨q,hq⟩
  exact QR I (by rw [e];exact True.intro) hs he (z0F hl hd (rel.put k rv) dd')
 ·subst ey eH
  cases (show u=Value.ref b from ry)
  obtain ⟨z,hd,xs,rel,dd⟩:=z9T I.hok e
  have hz:xs.length≤sizeLine:=by rw [←Paired.length rel];exact z
  have hl:(putK kvs k v).length≤sizeLine:=by have:=qS kvs k v;lia
  refine wpAny_setItem_heap (hsz:=hz) (tupleKind_room_in1 hu) (Ja I.hok eb) dd fun h' dd' hs=>h _ ?_
  obtain ⟨q,es,ep,hq,h2,h3,h4,_,h5⟩:=dd'
  refine QR I (by rw [e];exact True.intro) hs ⟨q,hq⟩ ⟨hl,hd,_,(rel.put k eb rv).keeps fun c ys ec=>?_,q,es,ep,hq,h2,h3,h4,h5⟩
  rw [zf (zC ec e (fun z=>nomatch z))]
  exact ec
end
section
variable {X:Cx} {pins:List (Addr × Obj)} {σ:St} {H:Hp} {s:Shared} {a:Addr} {kvs:List (Key × V)} {k:Key} {u:Value} {A:Around} {E:Value→Shared→Prop}
theorem z9U {v:V} {more:List Value} {Q:Value→Shared→Prop} (I:Inv X pins σ H s) (e:H a=some (.dK kvs)) (ry:RelV (kV k) u) (l:valV kvs k=some v) (hm:more=[]∨∃x,more=[x])
  (h:∀w' s',Inv X pins σ (upd H a (.dK (z1n kvs k))) s'→RelV v w'→Q w' s'):wpAny (model X.prog X.w) A (call (.builtin "dict.pop") (.ref a :: u :: more)) Q E s:=by
 obtain ⟨z,hd,vs,rel,dd⟩:=z2A I.hok e
 obtain ⟨w',hw,rw'⟩:=RelO.some_of (v:=v) (o:=valueAt vs k) (by rw [←l];exact rel.val k)
 have hp:(keyPart u).isSome=true:=by
  cases k with
  | inl i=>obtain ⟨t,q⟩:=(show ∃t,u=Value.int i t from ry);subst q;rfl
  | inr x=>obtain ⟨t,q⟩:=(show ∃t,u=Value.str x t from ry);subst q;rfl
 have ha:argsOk "dict.pop" ⟨.ref a :: u :: more,[]⟩:=by
  rcases hm with q | ⟨x,q⟩
  ·subst q;exact PySem.F.args_dict_pop_2 _ _
  ·subst q;exact PySem.F.args_dict_pop_3 _ _ _
 refine call_meetsIn PySem.F.slot_dict_pop dd.typeIs PySem.F.entry_dict_pop ha (meets_dict_pop_there (qd X.prog X.w) a (JJ ry) more hm hp)
  ⟨vs,w',dd,by rw [←rel.length];exact z,hw,fun h' dd' hs=>h w' _ ?_ rw'⟩
 have he:∃q,h'.get? a=some q:=let ⟨q,_,_,hq,_⟩:=dd';⟨q,hq⟩
 exact QR I (by rw [e];exact True.intro) hs he (z0F (ku (z5d kvs k) z) hd (rel.drop k) dd')
theorem z9V {Q:Value→Shared→Prop} (I:Inv X pins σ H s) (e:Rd H a (.dK kvs)) (h:∀t s',Inv X pins σ H s'→Q (.int kvs.length t) s'):wpAny (model X.prog X.w) A (call (.builtin "len") [.ref a]) Q E s:=by
 obtain ⟨z,hd,vs,rel,dd⟩:=JU I.hok e
 refine call_len_dict hd dd (by rw [←rel.length];rw [sizeLine_eq] at z;lia) ?_
 rw [←rel.length]
 exact h _ _ (I.tok _)
end
def NoSl (i:Expr):Prop:=∀ov iv,subscripted i false ov iv=operate [ov,iv] (getItem ov iv)
theorem z2J {prog:Program} {w:World} {A:Around} {E:Value→Shared→Prop} {s:Shared} {env:Env} {value slice:Expr} {pos:Pos} {T id:String} {Q:Value→Shared→Prop}
  (hl:typeLookup (.type T) "__getitem__"=pure (some (.builtin id))) (hs:NoSl slice)
  (h:wpAny (model prog w) A (eval value env) (fun o s₁=>wpAny (model prog w) A (eval slice env) (fun i s₂=>s₂.TypeIs o T∧wpAny (model prog w) A (getItem o i) Q E s₂) E s₁) E s):
  wpAny (model prog w) A (eval (.Subscript value slice pos) env) Q E s:=by
 refine Subscript_ (wpAny_mono h (fun o s₁ h₁=>wpAny_mono h₁ (fun i s₂ h₂=>?_) fun _ _ x=>x) fun _ _ x=>x)
 obtain ⟨hT,h₂⟩:=h₂
 unfold subscriptTail
 refine wpAny_bind ?_
 rw [getitemInPython_of_ne hT.not_modules]
 refine wpAny_bind (wpAny_specialOf hT hl ?_)
 have fin:wpAny (model prog w) A (subscripted slice false o i) (fun r s₃=>wpAny (model prog w) A (letTemporaryGo value o r >>= fun _=>pure r) Q E s₃) E s₂:=by
  rw [hs o i]
  exact wpAny_operating (wpAny_mono h₂ (fun r s₃ h₃=>wpAny_bind (wpAny_letTemporaryGo (wpAny_pure h₃))) fun _ _ x=>x)
 first
  | exact wpAny_pure (wpAny_bind fin)
  | exact wpAny_bind (wpAny_pure (wpAny_bind fin))
  | exact wpAny_bind fin
theorem z1o {X:Cx} {pins:List (Addr × Obj)} {σ:St} {H:Hp} {s:Shared} {a:Addr} {y:V} {o:Option V} (I:Inv X pins σ H s) (g:DGet H a y o):s.TypeIs (.ref a) "dict":=by
 rcases g with ⟨kvs,k,e,_,_⟩ | ⟨kvs,k,b,e,_,_,_⟩
 ·obtain ⟨_,_,vs,_,dd⟩:=JU I.hok e
  exact dd.typeIs
 ·obtain ⟨_,_,xs,_,dd⟩:=z1m I.hok e
  exact dd.typeIs
def z95 (td ty:TE):TE:=fun σ H Q=>td σ H fun x H1=>ty σ H1 fun y H2=>∃a v,x=.ref a∧DGet H2 a y (some v)∧Q v H2
def tDIn (ty td:TE):TE:=fun σ H Q=>ty σ H fun y H1=>td σ H1 fun x H2=>∃a o,x=.ref a∧DGet H2 a y o∧Q (.bl o.isSome) H2
def z61 (ty td:TE):TE:=fun σ H Q=>ty σ H fun y H1=>td σ H1 fun x H2=>∃a o,x=.ref a∧DGet H2 a y o∧Q (.bl (!o.isSome)) H2
def z9m (td ty tv:TE):TS:=fun D σ H=>tv σ H fun v H1=>td σ H1 fun x H2=>ty σ H2 fun y H3=>∃a H4,x=.ref a∧DPut H3 a y v H4∧D.nx σ H4
section
variable {X:Cx} {o i e value:Expr} {pos pos' tpos:Pos} {td ty tv:TE}
theorem jz (hu:X.A.units+1 < cLine) (ho:PE X o td) (hi:PE X i ty) (hs:NoSl i):PE X (.Subscript o i pos) (z95 td ty):=by
 intro pins s σ H Q I h
 refine z2J PySem.F.slot_dict_getitem.lookup hs (thn (ho pins s σ H _ I h) fun u s1 ⟨x,H1,I1,rx,q1⟩=>thn (hi pins s1 σ H1 _ I1 q1) fun iv s2 zz=>?_)
 obtain ⟨y,H2,I2,ry,a,v,ex,g,q2⟩:=zz
 subst ex
 obtain rfl:u=Value.ref a:=rx
 exact ⟨z1o I2 g,z3V hu I2 g ry fun w' s3 I3 rw'=>⟨v,H2,I3,rw',q2⟩⟩
theorem z5K (hu:X.A.units+1 < cLine) (hi:PE X i ty) (ho:PE X o td):PC X .In i o (tDIn ty td):=by
 intro pins s σ H Q I h
 refine thn (hi pins s σ H _ I h) fun iv s1 ⟨y,H1,I1,ry,q1⟩=>thn (ho pins s1 σ H1 _ I1 q1) fun u s2 zz=>?_
 obtain ⟨x,H2,I2,rx,a,ov,ex,g,q2⟩:=zz
 subst ex
 obtain rfl:u=Value.ref a:=rx
 exact d_in hu I2 g ry fun s3 I3=>⟨.bl ov.isSome,H2,I3,rfl,q2⟩
theorem QC (hu:X.A.units+1 < cLine) (hi:PE X i ty) (ho:PE X o td):PC X .NotIn i o (z61 ty td):=by
 intro pins s σ H Q I h
 refine thn (hi pins s σ H _ I h) fun iv s1 ⟨y,H1,I1,ry,q1⟩=>thn (ho pins s1 σ H1 _ I1 q1) fun u s2 zz=>?_
 obtain ⟨x,H2,I2,rx,a,ov,ex,g,q2⟩:=zz
 subst ex
 obtain rfl:u=Value.ref a:=rx
 exact z7d hu I2 g ry fun s3 I3=>⟨.bl (!ov.isSome),H2,I3,rfl,q2⟩
theorem QA (hu:X.A.units+1 < cLine) (ho:PE X o td) (hi:PE X i ty) (hv:PE X value tv) (hs:swapsWith value (some (.Subscript o i pos')) pos.line X.env=pure false):
  PS X (.Assign [.Subscript o i pos'] value pos) (z9m td ty tv):=by
 intro pins s σ H D I h
 refine wpAny_Assign_Subscript (thn (hv pins s σ H _ I h) fun r s1 ⟨v,H1,I1,rv,q1⟩=>thn (ho pins s1 σ H1 _ I1 q1) fun u s2 ⟨x,H2,I2,rx,q2⟩=>thn (hi pins s2 σ H2 _ I2 q2) fun iv s3 ⟨y,H3,I3,ry,a,H4,ex,g,q3⟩=>?_) hs
 subst ex
 obtain rfl:u=Value.ref a:=rx
 exact z3U hu I3 g ry rv fun s4 I4=>⟨σ,H4,I4,q3⟩
end
theorem z1X {P:Program} {w:World} {H:Hp} (h:Heap) (hb:sysModules < h.objs.size):qL P w H (h.push { cls:=.type "dict",data:=.dict #[] }) h.objs.size (.dK []):=
 ⟨Nat.zero_le _,beq_eq_false_iff_ne.mpr (Ne.symm (Nat.ne_of_lt hb)),[],.nil,Heap.DictOf.new h⟩
def z7x:TE:=fun _ H Q=>∀p,H p=none→Q (.ref p) (upd H p (.dK []))
section
variable {X:Cx} {pos:Pos}
theorem Jz:PE X (.Dict [] [] pos) z7x:=fun pins s σ H Q I h=>
 wpAny_Dict_empty ⟨.ref s.heap.objs.size,_,I.laid (a:=s.heap.objs.size) (o:=.dK []) (t':=s.toks) (fun _ _ q=>Heap.get?_push_of_some _ q) (ke _) (z1X s.heap I.big),rfl,h _ (I.hok.fresh (ke _))⟩
end
def z2H:List (TE × TE)→St→Hp→(List (V × V)→Hp→Prop)→Prop
 | [],_,H,Q=>Q [] H
 | (tk,tv) :: r,σ,H,Q=>tk σ H fun x H1=>tv σ H1 fun y H2=>z2H r σ H2 fun ps H3=>Q ((x,y) :: ps) H3
abbrev VV:List (V × V)→List (Value × Value)→Prop:=Paired fun p q=>RelV p.1 q.1∧RelV p.2 q.2
def PPs (X:Cx) (pos:Pos) (keys:List (Option Expr)) (values:List Expr) (trs:List (TE × TE)):Prop:=
 ∀(pins:List (Addr × Obj)) (s:Shared) (σ:St) (H:Hp) (Q:List (V × V)→Hp→Prop),Inv X pins σ H s→z2H trs σ H Q→
  wpAny (model X.prog X.w) X.A (evalPairs (pairTrees keys values X.env pos)) (fun vs s'=>∃ps H',Inv X pins σ H' s'∧VV ps vs∧Q ps H') X.xe s
theorem z35 {X:Cx} {pos:Pos}:PPs X pos [] [] []:=fun pins s σ H Q I h=>pairTrees_nil_walk ⟨[],H,I,.nil,h⟩
theorem ZF {X:Cx} {pos:Pos} {k v:Expr} {ks:List (Option Expr)} {vs:List Expr} {tk tv:TE} {trs:List (TE × TE)} (hk:PE X k tk) (hv:PE X v tv) (hr:PPs X pos ks vs trs):
  PPs X pos (some k :: ks) (v :: vs) ((tk,tv) :: trs):=fun pins s σ H Q I h=>
 pairTrees_cons_walk (thn (hk pins s σ H _ I h) fun u s1 ⟨x,H1,I1,rx,q1⟩=>thn (hv pins s1 σ H1 _ I1 q1) fun w2 s2 ⟨y,H2,I2,ry,q2⟩=>
  thn (hr pins s2 σ H2 _ I2 q2) fun ws s3 ⟨ps,H3,I3,rel,q3⟩=>⟨(x,y) :: ps,H3,I3,.cons ⟨rx,ry⟩ rel,q3⟩)
noncomputable def Qc (kvs more:List (Key × V)):List (Key × V):=more.foldl (fun acc kv=>putK acc kv.1 kv.2) kvs
theorem KV.merge:∀{more:List (Key × V)} {rs:List (Key × Value)} {kvs:List (Key × V)} {vs:List (Key × Value)},KV more rs→KV kvs vs→KV (Qc kvs more) (merged vs rs):=by
 intro more rs kvs vs r
 unfold KV at r
 induction r generalizing kvs vs with
 | nil=>intro q;exact q
 | @cons p q ps qs h t ih=>
  intro r0
  have e:KV (putK kvs p.1 p.2) (stored vs q.1 q.2):=by
   have:=r0.put p.1 h.2
   rw [←h.1];exact this
  exact ih e
theorem ZL:∀(more kvs:List (Key × V)),(Qc kvs more).length≤kvs.length+more.length
 | [],kvs=>by show kvs.length≤kvs.length+0;lia
 | p :: r,kvs=>by
  have h1:=ZL r (putK kvs p.1 p.2)
  have h2:=qS kvs p.1 p.2
  show (Qc (putK kvs p.1 p.2) r).length≤_
  rw [kQ];lia
theorem Jk {P:Program} {w:World}:∀{kvs:List (Key × V)} {ws:List (Value × Value)},VV (kvs.map fun kv=>(kV kv.1,kv.2)) ws→∃rs,Carries (qd P w) ws rs∧KV kvs rs
 | [],_,r=>by rw [List.map_nil] at r;cases r;exact ⟨[],True.intro,.nil⟩
 | p :: kvs,_,r=>by
  rw [kX] at r
  cases r with
  | @cons a b as bs h t=>
   obtain ⟨rs,c,q⟩:=Jk (P:=P) (w:=w) t
   obtain ⟨b1,b2⟩:=b
   exact ⟨(p.1,b2) :: rs,⟨JJ h.1,rfl,c⟩,.cons ⟨rfl,h.2⟩ q⟩
def z94 (trs:List (TE × TE)):TE:=fun σ H Q=>∀p,H p=none→z2H trs σ (upd H p (.dK [])) fun ps H2=>H2 p=some (.dK [])∧∃kvs:List (Key × V),ps=kvs.map (fun kv=>(kV kv.1,kv.2))∧kvs.length≤15∧Q (.ref p) (upd H2 p (.dK (Qc [] kvs)))
theorem z3a {X:Cx} {pos:Pos} {keys:List (Option Expr)} {values:List Expr} {trs:List (TE × TE)} (h:PPs X pos keys values trs) (hall:keys.all (·.isSome)=true) (hl:keys.length=values.length) (h0:keys≠[])
  (h15:keys.length≤15):PE X (.Dict keys values pos) (z94 trs):=by
 intro pins s σ H Q I q
 have hn:=I.hok.fresh (ke s.heap.objs.size)
 have I1:=I.laid (a:=s.heap.objs.size) (o:=.dK []) (h':=s.heap.push { cls:=.type "dict",data:=.dict #[] }) (t':=s.toks) (fun _ _ q=>Heap.get?_push_of_some _ q) (ke _) (z1X s.heap I.big)
 refine wpAny_Dict_walk (knd:=qd X.prog X.w) hall hl h0 h15 (thn (h pins _ σ _ _ I1 (q _ hn)) fun ws s2 zz=>?_)
 obtain ⟨ps,H2,I2,rel,e,kvs,ep,lk,q2⟩:=zz
 subst ep
 obtain ⟨rs,c,rk⟩:=Jk (P:=X.prog) (w:=X.w) rel
 obtain ⟨z,hd,vs0,r0,dd⟩:=z2A I2.hok e
 cases r0
 refine ⟨rs,c,dd,fun h' dd' hs=>⟨.ref s.heap.objs.size,_,?_,rfl,q2⟩⟩
 have hz:(Qc [] kvs).length≤sizeLine:=by
  have h1:=ZL kvs []
  rw [List.length_nil] at h1
  rw [sizeLine_eq];lia
 have he:∃q,h'.get? s.heap.objs.size=some q:=let ⟨q,_,_,hq,_⟩:=dd';⟨q,hq⟩
 exact QR I2 (by rw [e];exact True.intro) hs he (z0F hz hd (rk.merge .nil) dd')
structure M1 (X:Cx) (o:Expr) (m:Str) (apos:Pos) (e:Expr) (cpos:Pos):Prop where
 base:attributeBase o m X.env (eval o X.env)=eval o X.env
 few:((backTo cpos (starEach [e] X.env)).all (fun x=> !x.1)&&(backToKw cpos (keywordEach [] X.env)).all (fun x=>x.1.isSome)
  &&decide (([e]:List Expr).length+([]:List Keyword).length+(if ([]:List Keyword).isEmpty then 0 else 1) < 30))=true
 line:(apos.endLine == cpos.line)=true
 trees:backTo cpos (starEach [e] X.env)=[(false,eval e X.env)]
structure M2 (X:Cx) (o:Expr) (m:Str) (apos:Pos) (e f:Expr) (cpos:Pos):Prop where
 base:attributeBase o m X.env (eval o X.env)=eval o X.env
 few:((backTo cpos (starEach [e,f] X.env)).all (fun x=> !x.1)&&(backToKw cpos (keywordEach [] X.env)).all (fun x=>x.1.isSome)
  &&decide (([e,f]:List Expr).length+([]:List Keyword).length+(if ([]:List Keyword).isEmpty then 0 else 1) < 30))=true
 line:(apos.endLine == cpos.line)=true
 trees:backTo cpos (starEach [e,f] X.env)=[(false,eval e X.env),(false,eval f X.env)]
def IsD (H:Hp) (a:Addr):Prop:=(∃kvs,Rd H a (.dK kvs))∨∃kvs,Rd H a (.dT kvs)
theorem z3w {X:Cx} {pins:List (Addr × Obj)} {σ:St} {H:Hp} {s:Shared} {a:Addr} (I:Inv X pins σ H s) (d:IsD H a):
  s.TypeIs (.ref a) "dict"∧(∀b,Value.ref a=.ref b→∃ob,s.heap.get? b=some ob∧ob.dict=none)∧(a == sysModules)=false:=by
 rcases d with ⟨kvs,e⟩ | ⟨kvs,e⟩
 ·obtain ⟨_,hd,vs,_,dd⟩:=JU I.hok e
  refine ⟨dd.typeIs,fun b q=>?_,hd⟩
  cases q
  obtain ⟨ob,_,_,h1,h2,_⟩:=dd
  exact ⟨ob,h1,h2.2.1⟩
 ·obtain ⟨_,hd,xs,_,dd⟩:=z1m I.hok e
  refine ⟨dd.typeIs,fun b q=>?_,hd⟩
  cases q
  obtain ⟨ob,_,_,h1,h2,_⟩:=dd
  exact ⟨ob,h1,h2.2.1⟩
section
variable {X:Cx} {pins:List (Addr × Obj)} {σ:St} {H:Hp} {s:Shared} {a:Addr} {y d:V} {u r:Value} {o:Option V} {A:Around} {E:Value→Shared→Prop}
theorem z8F {Q:Value→Shared→Prop} (hu:A.units+1 < cLine) (I:Inv X pins σ H s) (g:DGet H a y o) (ry:RelV y u) (h:∀w' s',Inv X pins σ H s'→RelV (o.getD .non) w'→Q w' s'):
  wpAny (model X.prog X.w) A (call (.builtin "dict.get") [.ref a,u]) Q E s:=by
 rcases g with ⟨kvs,k,e,ey,l⟩ | ⟨kvs,k,b,e,ey,eb,l⟩
 ·subst ey
  obtain ⟨z,hd,vs,rel,dd⟩:=JU I.hok e
  refine call_meetsIn PySem.F.slot_dict_get dd.typeIs PySem.F.entry_dict_get (PySem.F.args_dict_get_2 _ _) (meets_dict_get (qd X.prog X.w) a (JJ ry) hd) ⟨_,dd.mapOf,h _ _ (I.tok _) ?_⟩
  rw [l]
  exact (rel.val k).getD rfl
 ·subst ey
  cases (show u=Value.ref b from ry)
  obtain ⟨z,hd,xs,rel,dd⟩:=z1m I.hok e
  refine call_meetsIn PySem.F.slot_dict_get dd.typeIs PySem.F.entry_dict_get (PySem.F.args_dict_get_2 _ _) (meetsH_dict_get (tupleKind (qd X.prog X.w)) a b hd) ⟨tupleKind_room_in1 hu,k,xs,Ja I.hok eb,dd,h _ _ (I.tok _) ?_⟩
  rw [l]
  exact (rel.val k).getD rfl
end
def z7y (td ty:TE):TE:=fun σ H Q=>td σ H fun x H1=>∃a,x=.ref a∧IsD H1 a∧ty σ H1 fun y H2=>∃o,DGet H2 a y o∧Q (o.getD .non) H2
def z7w (td ty:TE):TE:=fun σ H Q=>td σ H fun x H1=>∃a,x=.ref a∧IsD H1 a∧ty σ H1 fun y H2=>∃kvs k v,H2 a=some (.dK kvs)∧y=kV k∧valV kvs k=some v∧Q v (upd H2 a (.dK (z1n kvs k)))
section
variable {X:Cx} {o e f:Expr} {apos cpos:Pos} {td ty tx:TE}
theorem z1F (hu:X.A.units+1 < cLine) (ho:PE X o td) (he:PE X e ty) (m:M1 X o "get" apos e cpos):PE X (.Call (.Attribute o "get" apos) [e] [] cpos) (z7y td ty):=by
 intro pins s σ H Q I h
 refine wpAny_Call_method m.base m.few m.line PySem.F.plainAttrs_dict PySem.F.slot_dict_get PySem.F.type_dict_get (thn (ho pins s σ H _ I h) fun u s1 zz=>?_)
 obtain ⟨x,H1,I1,rx,a,ex,d,q1⟩:=zz
 subst ex
 obtain rfl:u=Value.ref a:=rx
 obtain ⟨t1,t2,_⟩:=z3w I1 d
 refine ⟨t1,t2,?_⟩
 rw [m.trees]
 refine Calls.callWith_builtin rfl (Calls.evalArgs_plain (Calls.spliced_cons (thn (he pins s1 σ H1 _ I1 q1) fun iv s2 ⟨y,H2,I2,ry,ov,g,q2⟩=>Calls.spliced_nil ?_)))
 exact z8F hu I2 g ry fun w' s3 I3 rw'=>⟨_,H2,I3,rw',q2⟩
theorem z1E (ho:PE X o td) (he:PE X e ty) (m:M1 X o "pop" apos e cpos):PE X (.Call (.Attribute o "pop" apos) [e] [] cpos) (z7w td ty):=by
 intro pins s σ H Q I h
 refine wpAny_Call_method m.base m.few m.line PySem.F.plainAttrs_dict PySem.F.slot_dict_pop PySem.F.type_dict_pop (thn (ho pins s σ H _ I h) fun u s1 zz=>?_)
 obtain ⟨x,H1,I1,rx,a,ex,d,q1⟩:=zz
 subst ex
 obtain rfl:u=Value.ref a:=rx
 obtain ⟨t1,t2,_⟩:=z3w I1 d
 refine ⟨t1,t2,?_⟩
 rw [m.trees]
 refine Calls.callWith_builtin rfl (Calls.evalArgs_plain (Calls.spliced_cons (thn (he pins s1 σ H1 _ I1 q1) fun iv s2 ⟨y,H2,I2,ry,kvs,k,v,ea,ey,l,q2⟩=>Calls.spliced_nil ?_)))
 subst ey
 exact z9U I2 ea ry l (.inl rfl) fun w' s3 I3 rw'=>⟨v,_,I3,rw',q2⟩
end
section
variable {X:Cx} {pins:List (Addr × Obj)} {σ:St} {H:Hp} {s:Shared} {a:Addr} {kvs:List (Key × V)} {A:Around} {E:Value→Shared→Prop}
theorem z5g {Q:Value→Shared→Prop} (I:Inv X pins σ H s) (e:Rd H a (.dK kvs)) (h:∀p s',H p=none→Inv X pins σ (upd H p (.dK kvs)) s'→Q (.ref p) s'):wpAny (model X.prog X.w) A (call (.type "dict") [.ref a]) Q E s:=by
 obtain ⟨z,hd,vs,rel,dd⟩:=JU I.hok e
 refine kt_call_dict hd dd (by rw [←rel.length];exact z) fun h' dd' hs=>?_
 refine h _ _ (I.hok.fresh (ke _)) (I.laid (a:=s.heap.objs.size) (o:=.dK kvs) (t':=s.toks) (fun b q hq=>?_) (ke _) (z0F z (beq_eq_false_iff_ne.mpr (Ne.symm (Nat.ne_of_lt I.big))) rel dd'))
 exact (hs.2 b (Nat.ne_of_lt (Heap.lt_size hq))).trans (Heap.get?_push_of_some _ hq)
end
section
variable {X:Cx} {pins:List (Addr × Obj)} {σ:St} {H:Hp} {s:Shared} {a:Addr} {y:V} {u:Value} {A:Around} {E:Value→Shared→Prop}
end
end L2
namespace Att
open PySem PySem.W PySem.Calls PyProof.Rows
theorem QP {P:Params} {h:Heap}:∀(ns:List Int) (vs:List Value),WellAll P h vs (ns.map WData.int)→IntsAre vs ns:=by
 intro ns
 induction ns with
 | nil=>
  intro vs w
  rw [List.map_nil] at w
  cases w
  exact .nil
 | cons n ns ih=>
  intro vs w
  rw [kX] at w
  cases w with
  | cons a b=>
   cases a
   exact .cons _ _ (ih _ b)
theorem z30 {l:OpenLaw} {n:Nat} (hn:l.most=some n) {P:Params} {h:Heap} {args:List WData} {vals:List Value}
  (hpre:l.row.toRowW.claim.pre args=true) (hwl:WellAll P h vals args):
  ∃a vs ns,vals=[Value.ref a]∧args=[WData.list (ns.map WData.int)]∧h.get? a=some { cls:=.type "list",data:=.seq vs.toArray }∧IntsAre vs ns∧ns.length≤n:=by
 have hsh:WShape.hasAll [] args [.list .int]=true:=(pre_splitW hpre).1
 have hc:l.pre.holds [] { args:=args }=true:=(pre_splitW hpre).2
 obtain ⟨d,r,rfl,h1,h2⟩:=hasAllW_cons hsh
 obtain rfl:=hasAllW_nil h2
 obtain ⟨xs,rfl,h3⟩:=hasW_list h1
 obtain ⟨ns,rfl⟩:=items_int h3
 have hlen:ns.length≤n:=by
  unfold OpenLaw.pre at hc
  have h4:(WTm.not (.lt (.lit (.int (n:Int))) (.len (.arg 0)))).holds [] { args:=[.list (ns.map .int)] }=true:=by
   have h4:=(holds_andW hc).1
   rw [hn] at h4
   exact h4
  have h5:=condW_of h4 (w_not (w_lt w_lit (w_len_list (w_arg rfl))))
  rw [kj] at h5
  refine Nat.le_of_not_lt fun q=>?_
  have q':(n:Int) < ((ns.length:Nat):Int):=by lia
  first
   | (rw [ki q'] at h5;exact absurd h5 (by decide))
   | (simp at h5;lia)
 cases hwl with
 | cons w1 w2=>
  cases w2
  cases w1 with
  | list ho hall=>exact ⟨_,_,ns,rfl,rfl,ho,QP ns _ hall,hlen⟩
theorem z36 (l:OpenLaw) (args:List WData):l.row.toRowW.claim.post args (.bool true) args=true:=
 postW_of (r:=l.row.toRowW) (X:=(true == true))
  (show WShape.has [] (.bool true) .bool=true by first | rfl | decide | simp [WShape.has,WShape.arms,WShape.armsAll])
  (show (WTm.eq .res (.lit (.bool true))).value [] { args:=args,res:=some (.bool true),after:=args }=some (.bool (true == true)) from w_eq_bool (w_res rfl) w_lit) rfl
theorem attach_call {l:OpenLaw} {n:Nat} {q:Program} {loose:List Str} {XP:(Str→Option Value)→Heap→Prop} {YP:World→Heap→Prop} {d:DefRec}
  (hn:l.most=some n) (hdf:d.params.defaults=[])
  (call:∀(w:World) (s₀ s₁:Shared) (mg mb:Str→Option Value) (fa:Addr) (o:Obj) (pm cd doc:Value) (a:Addr) (vs:List Value) (ns:List Int),
   Ground q loose [] XP w s₀ mg mb s₁.heap→YP w s₁.heap→
   s₁.heap.get? fa=some o→o.data=.func (docDef d.name d.params d.body d.scope pm cd doc)→s₁.heap.CodeRec cd d.name→mg d.name=some (.ref fa)→
   s₁.heap.get? a=some { cls:=.type "list",data:=.seq vs.toArray }→IntsAre vs ns→ns.length≤n→s₁.gens=#[]→
   codeAny (model l.prog w) callerA (.call (.ref fa) ⟨[.ref a],[]⟩) (fun r s'=>r=.ok (.ret (.bool true))∧OldK s₁.heap s'.heap∧s'.os=s₁.os∧AllBare s'.gens) s₁):
  WalkO q loose XP YP l.row.toRowW d [] (fun f vs=>PySem.call f vs):=by
 intro w s₀ s₁ mg mb G Y fa o pm cd doc dV kV ho hd hcd hD hmg hg args vals as hpre hlay hrd hwl hlo
 obtain rfl:dV=.none:=Dflts.none hD hdf
 obtain rfl:kV=.none:=Dflts.noKw hD
 obtain ⟨a,vs,ns,rfl,rfl,hobj,hints,hlen⟩:=z30 hn hpre hwl
 refine enter_call (codeAny_mono (call w s₀ s₁ mg mb fa o pm cd doc a vs ns G Y ho (fd_plain hd) hcd hmg hobj hints hlen hg) fun r s' hq=>?_)
 obtain ⟨rfl,h2,h3,h4⟩:=hq
 exact ⟨.inl ⟨.bool true,.bool true,[],rfl,fun _=>rfl,.bool true,z36 l _,fun _=>⟨List.Pairwise.nil,fun _ hm=>(nomatch hm)⟩⟩,h2,h3,h4⟩
section
variable {prog:Program} {w:World} {A:Around} {E:Value→Shared→Prop} {s:Shared} {K:Frag}
end
end Att
namespace L2
open PySem PySem.Spec PyProof.Rows
theorem z05:∀{vs:List Value} {ns:List Int},IntsAre vs ns→Vals (ns.map V.int) vs
 | _,_,.nil=>.nil
 | _,_,.cons n t h=>.cons ⟨t,rfl⟩ (z05 h)
def Only (H:Hp):Prop:=∀b,H b=none∨∃o xs,H b=some (.frz o (.lst xs))
theorem z4F {P:Program} {w:World} {K:ky} {mg mb:Str→Option Value} {CX:CXT} {k:Nat} {fa a:Addr} {fd:FuncData} {x:Str} {sp:Sp} {s₁:Shared} {vs:List Value} {ns:List Int}
  (KX:K.In s₁.heap) (hns:s₁.heap.Ns mainGlobals mg) (hb:s₁.heap.Ns builtinsNs mb) (hbb:∀x:Str,x≠"__name__"→mb x=bootBuiltins x) (hlim:s₁.heap.NoLimit) (hg:s₁.gens=#[])
  (ha:s₁.heap.get? a=some { cls:=.type "list",data:=.seq vs.toArray }) (hi:IntsAre vs ns) (hl:ns.length≤sizeLine) (hr:Room k callerA)
  (F:∀base:Heap,K.In base→base.Ns mainGlobals mg→FnOk P w K mg base CX k fa fd [x] sp) (hbind:∀(s:Shared) (u:Value),BindsTo s fd ⟨[u],[]⟩ [(x,u)])
  (hsp:∀H:Hp,Only H→SqL K H a (ns.map V.int)→sp [.ref a] H (fun v _=>v=.bl true) fun _ _ _=>False)
  (hCX:∀H e s',CX [] H s₁ (fun _ _ _=>False) e s'→False):
  codeAny (model P w) callerA (.call (.ref fa) ⟨[.ref a],[]⟩) (fun r s'=>r=.ok (.ret (.bool true))∧OldK s₁.heap s'.heap∧s'.os=s₁.os∧AllBare s'.gens) s₁:=by
 have rv:=z05 hi
 have lenV:=hi.length
 have core:∀H:Hp,Only H→SqL K H a (ns.map V.int)→HOk P w H s₁.heap→(∀b,H b≠none→b=a)→(H a≠none→K.lookup a=none)→
   codeAny (model P w) callerA (.call (.ref fa) ⟨[.ref a],[]⟩) (fun r s'=>r=.ok (.ret (.bool true))∧OldK s₁.heap s'.heap∧s'.os=s₁.os∧AllBare s'.gens) s₁:=by
  intro H hO hS hok hA hK
  have base_of:∀{b:Addr} {o:Obj},s₁.heap.get? b=some o→H b=none→(hidT s₁.heap H).get? b=some o:=fun e n=>z4H e n
  have noA:∀{b:Addr} {o:Obj} {es:Array DictEntry} {ep:Nat},s₁.heap.get? b=some o→o.data=.dict es ep→H b=none:=fun {b o es ep} e d=>by
   cases q:H b with
   | none=>rfl
   | some u=>
    have e':b=a:=hA b (by rw [q];simp)
    subst e'
    rw [ha] at e;cases e
    have d':Data.seq vs.toArray _=Data.dict es ep:=d
    cases d'
  have nsK:∀{b:Addr} {m:Str→Option Value},s₁.heap.Ns b m→(hidT s₁.heap H).Ns b m:=fun {b m} ⟨o,es,ep,e,d,r⟩=>⟨o,es,ep,base_of e (noA e d),d,r⟩
  have hKb:K.In (hidT s₁.heap H):=fun b o e=>base_of (KX b o e) (by
   cases q:H b with
   | none=>rfl
   | some u=>
    have e':b=a:=hA b (by rw [q];simp)
    subst e'
    rw [hK (by rw [q];simp)] at e;cases e)
  have hM:Mod K mg (hidT s₁.heap H):=⟨hKb,nsK hns,⟨mb,nsK hb,hbb⟩,let ⟨mc,h1,h2⟩:=hlim;⟨mc,nsK h1,h2⟩⟩
  have e0:Env0 P w K mg (hidT s₁.heap H) callerA [] s₁ H:=⟨rfl,hM,fun b o e=>z6t e,ya (z3y _ _),trivial,fun b hb=>absurd (show b∈([]:List Addr) from hb) (by simp),hok,.of_eq hg⟩
  refine codeAny_mono ((F _ hKb (nsK hns)).run callerA [] s₁ H ⟨[.ref a],[]⟩ [.ref a] [.ref a] _ _ hr e0 (hbind s₁ (.ref a)) (.cons rfl .nil) (hsp H hO hS)) fun r s' h=>?_
  cases r with
  | error e=>exact (hCX H e s' h).elim
  | ok fl=>
   cases fl with
   | next=>exact False.elim h
   | brk=>exact False.elim h
   | cont=>exact False.elim h
   | ret u=>
    obtain ⟨v,H',os,bare,un,hok',r',q⟩:=h
    have q':v=.bl true:=q
    subst q'
    obtain rfl:u=Value.bool true:=r'
    refine ⟨rfl,OldK.of_keep fun b o e=>?_,os,bare⟩
    cases q:H b with
    | none=>exact un.keep b o e q (by intro z;exact absurd (show b∈([]:List Addr) from z) (by simp)) (by simp)
    | some u=>
     rcases hO b with z | ⟨ob,xs,z⟩
     ·rw [q] at z;cases z
     ·have z2:=un.frzs b ob _ z
      obtain ⟨e1,_⟩:=hok b _ z
      obtain ⟨e2,_⟩:=hok' b _ z2
      rw [e] at e1;cases e1
      exact e2
 cases hk:K.lookup a with
 | some o=>
  have e:=KX a o hk
  rw [ha] at e
  cases e
  refine core (fun _=>none) (fun _=>.inl rfl) (.inr ⟨_,vs.toArray,_,hk,rfl,rfl,rfl,by rw [kG,lenV];exact hl,by simpa using rv⟩) (fun b u z=>by have z':(none:Option HO)=some u:=z;cases z') (fun b z=>absurd rfl z) fun z=>absurd rfl z
 | none=>
  refine core (fun b=>if b=a then some (.frz { cls:=.type "list",data:=.seq vs.toArray } (.lst (ns.map V.int))) else none) (fun b=>?_) (.inl (.inr ⟨{ cls:=.type "list",data:=.seq vs.toArray },kC rfl⟩)) (fun b u z=>?_) (fun b z=>?_) fun _=>hk
  ·by_cases hb:b=a
   ·exact .inr ⟨_,_,kC hb⟩
   ·exact .inl (kz hb)
  ·by_cases hb:b=a
   ·have z':=(kC hb).symm.trans z
    cases z'
    subst hb
    exact ⟨ha,by rw [kj];exact hl,vs,_,rv,ha⟩
   ·have z':=(kz hb).symm.trans z
    cases z'
  ·by_cases hb:b=a
   ·exact hb
   ·exact absurd (kz hb) z
end L2
namespace L2
open PySem PySem.Spec PyProof.Rows
theorem z5T {l:PySem.W.OpenLaw} {n k:Nat} {q:Program} {loose:List Str} {XP:(Str→Option Value)→Heap→Prop} {YP:World→Heap→Prop} {d:DefRec} {K:Params→ky} {CX:World→CXT} {sp:World→Sp} {x:Str}
  (hn:l.most=some n) (hn2:n≤sizeLine) (hdf:d.params.defaults=[]) (hr:Room k callerA)
  (hY:∀(w:World) (h:Heap),YP w h→(K w.params).In h)
  (F:∀(w:World) (mg:Str→Option Value) (fa:Addr) (h:Heap),(K w.params).In h→h.Ns mainGlobals mg→mg d.name=some (.ref fa)→
   ∃fd:FuncData,(∀(s:Shared) (u:Value),BindsTo s fd ⟨[u],[]⟩ [(x,u)])∧
    ∀base:Heap,(K w.params).In base→base.Ns mainGlobals mg→FnOk l.prog w (K w.params) mg base (CX w) k fa fd [x] (sp w))
  (hsp:∀(w:World) (H:Hp) (a:Addr) (ns:List Int),ns.length≤n→Only H→SqL (K w.params) H a (ns.map V.int)→sp w [.ref a] H (fun v _=>v=.bl true) fun _ _ _=>False)
  (hCX:∀(w:World) (H:Hp) (s:Shared) (e:Value) (s':Shared),CX w [] H s (fun _ _ _=>False) e s'→False):
  PySem.W.WalkO q loose XP YP l.row.toRowW d [] (fun f vs=>PySem.call f vs):=by
 refine Att.attach_call hn hdf fun w s₀ s₁ mg mb fa o pm cd doc a vs ns G Y ho hd hcd hmg hobj hints hlen hg=>?_
 have KX:=hY w _ Y
 obtain ⟨fd,hb,hF⟩:=F w mg fa _ KX G.T.g hmg
 exact z4F KX G.T.g G.T.b G.T.builtins G.T.nolimit hg hobj hints (ku hlen hn2) hr hF hb (fun H hO hS=>hsp w H a ns hlen hO hS) fun H e s'=>hCX w H s₁ e s'
end L2
namespace L2
open PySem PySem.Spec PyProof.Rows
noncomputable def qz (s:Stmt):Arguments:=match s with
 | .FunctionDef _ a _ _ _ _ _ _ _ _=>a
 | _=>{ posonlyargs:=[],args:=[],vararg:=none,kwonlyargs:=[],kw_defaults:=[],kwarg:=none,defaults:=[] }
noncomputable def zN (s:Stmt):List Stmt:=match s with
 | .FunctionDef _ _ b _ _ _ _ _ _ _=>b
 | _=>[]
noncomputable def zd (s:Stmt):Scope:=match s with
 | .FunctionDef _ _ _ _ _ _ sc _ _ _=>sc
 | _=>{ kind:=.function,names:=[],isGenerator:=false,isCoroutine:=false }
abbrev CX0:CXT:=fun _ _ _ _ _ _=>False
abbrev E0:XK:=fun _ _ _=>False
theorem z2e {X:Cx}:QY CX0 X E0:=fun _ _ _ _ _ _ _ h=>h.elim
structure Fun (K:ky) (x qual:Str) (st:Stmt) (f:Addr) (fd:FuncData):Prop where
 ex:∃(oc:Value) (od:Option Addr) (kV doc pm:Value) (an:Option Addr) (cdv ct:Value) (osl:Array (Option Value)),
  fd=PySem.W.fnOf x qual (qz st) (zN st) (zd st) .none kV doc pm an cdv ct∧K.lookup f=some ⟨oc,od,.func fd,osl⟩∧PySem.W.codeIn K cdv qual=true
 kp:PySem.W.keepIn K (.ref f)=true
section
variable {P:Program} {w:World} {K:ky} {mg:Str→Option Value} {base:Heap}
theorem Fun.ok {x qual:Str} {st:Stmt} {f:Addr} {fd:FuncData} {N ps:List Str} {k:Nat} {sp:Sp} (F:Fun K x qual st f fd) (S:zj N ps (zd st)) (len:∀vs H Q E,sp vs H Q E→vs.length=ps.length)
  (hbody:∀(cdv:Value) (A:Around) (outer:List Env) (s:Shared) (H:Hp) (vs:List V) (Q:VK) (E:XK),Room k (A.deeper (envOfC qual (zd st) s.heap.objs.size f cdv))→sp vs H Q E→
   ∃t,PSs (cxOf CX0 P w K mg base N qual (zd st) f cdv A outer s H E).nox (zN st) t∧t { nx:=fun _ H'=>Q .non H',rt:=Q } (jO N vs) H):FnOk P w K mg base CX0 (k+1) f fd ps sp:=by
 obtain ⟨oc,od,kV,doc,pm,an,cdv,ct,osl,rfl,lk,hcd⟩:=F.ex
 refine z8v lk hcd S len fun A outer s H vs Q E hr hsp=>?_
 obtain ⟨t,h,q⟩:=hbody cdv A outer s H vs Q E hr hsp
 exact ⟨t,h.nox,q⟩
theorem Fun.binds {x qual:Str} {st:Stmt} {f:Addr} {fd:FuncData} {ps:List Str} (F:Fun K x qual st f fd)
  (h:∀(kV doc pm:Value) (an:Option Addr) (cdv ct:Value) (us:List Value),us.length=ps.length→bindArgs (PySem.W.fnOf x qual (qz st) (zN st) (zd st) .none kV doc pm an cdv ct) ⟨us,[]⟩=pure (ps.zip us)):Zd K fd ps []:=by
 obtain ⟨oc,od,kV,doc,pm,an,cdv,ct,osl,rfl,lk,hcd⟩:=F.ex
 exact .all (h kV doc pm an cdv ct)
theorem z1U {x qual:Str} {st:Stmt} {f:Addr} {oc:Value} {od an:Option Addr} {osl:Array (Option Value)} {kV doc pm cdv ct:Value} (l:K.lookup f=some ⟨oc,od,.func (PySem.W.fnOf x qual (qz st) (zN st) (zd st) .none kV doc pm an cdv ct),osl⟩)
  (c:PySem.W.codeIn K cdv qual=true) (k:PySem.W.keepIn K (.ref f)=true):Fun K x qual st f (PySem.W.fnOf x qual (qz st) (zN st) (zd st) .none kV doc pm an cdv ct):=⟨⟨oc,od,kV,doc,pm,an,cdv,ct,osl,rfl,l,c⟩,k⟩
end
theorem Zq {A:Around} {k:Nat} (hr:Room k A):A.units+1 < cLine:=Nat.lt_of_le_of_lt (Nat.add_le_add_left (by decide:1≤64) _) hr.units
theorem qJ {n:Nat} (h:n≤1000):n < sizeLine:=Nat.lt_of_le_of_lt h (by decide)
section
variable {X:Cx}
theorem pv (i:Nat) {x:Str} {pos:Pos} (hN:autoParam (X.N[i]?=some x) aR._auto_1) (hv:Vis X.env.scope x:=by first | exact Or.inl rfl | exact Or.inr (Or.inl rfl) | exact Or.inr (Or.inr rfl)) (hd:autoParam ((x == ("__debug__":Str))=false) aR._auto_2)
  (hcd:autoParam ((x == ("__classdict__":Str))=false) aR._auto_2):PE X (.Name x pos) (tVar i):=z7Y hN hv hd hcd
theorem z42:ZY X (.builtin "len") (fun xs H Q=>∃a kvs,xs=[V.ref a]∧H a=some (.dK kvs)∧Q (.int kvs.length) H):=by
 intro pins s σ H xs us Q I r h
 obtain ⟨a,kvs,rfl,ha,q⟩:=h
 obtain ⟨u,rfl,ru⟩:=Jo r
 cases ru
 exact z9V I (.inl ha) fun t s' I'=>⟨.int kvs.length,H,I',⟨t,rfl⟩,q⟩
end
theorem iteF {A B:Prop} (h:B):if false=true then A else B:=by
 rw [kz ka]
 exact h
theorem iteT {A B:Prop} (h:A):if true=true then A else B:=by
 rw [kC rfl]
 exact h
theorem ite2 {c A B:Prop} [Decidable c] (h1:c→A) (h2:¬c→B):if c then A else B:=by
 by_cases h:c
 ·rw [kC h]
  exact h1 h
 ·rw [kz h]
  exact h2 h
def Same (H H':Hp):Prop:=∀b o,H b=some o→H' b=some o
theorem Same.refl (H:Hp):Same H H:=fun _ _ h=>h
theorem Same.trans {H H1 H2:Hp} (a:Same H H1) (b:Same H1 H2):Same H H2:=fun c o h=>b c o (a c o h)
theorem Same.free {H H':Hp} (e:Same H H') {l:Addr} (h:H' l=Option.none):H l=Option.none:=by
 cases q:H l with
 | none=>rfl
 | some o=>
  rw [e l o q] at h
  cases h
theorem Same.seq {K:ky} {H H':Hp} {a:Addr} {xs:List V} (e:Same H H') (h:SqL K H a xs):SqL K H' a xs:=by
 rcases h with (h | ⟨o,h⟩) | h
 ·exact .inl (.inl (e _ _ h))
 ·exact .inl (.inr ⟨o,e _ _ h⟩)
 ·exact .inr h
section
variable {κ:Type} [DecidableEq κ]
end
end L2
set_option genInjectivity false
set_option maxRecDepth 100000
set_option maxHeartbeats 4000000
namespace L2
open PySem PySem.Spec PyProof.Rows
theorem z0p {names:List (Str × NameKind)} {k:NameKind} (h:∀y∈names,y.2≠k) (x:Str):names.lookup x≠some k:=fun e=>h _ (PySem.mem_of_lookup e) rfl
theorem z2a {scope:Scope} {env:Env} (h:∀y∈scope.names,y.2≠.free):relabel scope env=scope:=by
 unfold relabel
 rw [map_eq_self (l:=scope.names) (fun x hx=>by
  obtain ⟨n,k⟩:=x
  have:(k == NameKind.free)=false:=by simpa using h _ hx
  simp [this])]
section
variable {X:Cx}
def z4d (i:Nat) (te:TE):TS:=fun D σ H=>te σ H fun v H1=>D.nx (σ.set i (some v)) H1
end
end L2
namespace L2
open PySem PySem.Spec PyProof.Rows
theorem Inv.turned2 {X:Cx} {pins:List (Addr × Obj)} {σ:St} {H:Hp} {s:Shared} {h':Heap} {t':Nat} {e it:Addr} {xs:List V} (I:Inv X pins σ H s) (k:∀b o,b≠e→b≠it→s.heap.get? b=some o→h'.get? b=some o)
  (there:∀b∈[e,it],∃o,h'.get? b=some o) (fe:FpOk X pins H e) (fi:FpOk X pins H it) (new:qL X.prog X.w (upd H s.heap.objs.size (.tup xs)) h' s.heap.objs.size (.tup xs)):
  Inv X pins σ (upd H s.heap.objs.size (.tup xs)) { s with heap:=h',toks:=t' }:=by
 have hn:=I.fresh
 have nit:∀b u,H b=some u→b≠e∧b≠it:=fun b u q=>⟨(fun z=>by rw [z,fe.1] at q;cases q),(fun z=>by rw [z,fi.1] at q;cases q)⟩
 have hm:∀{b:Addr},b∉[e,it]→b≠e∧b≠it:=fun {b} hb=>⟨fun z=>hb (by simp [z]),fun z=>hb (by simp [z])⟩
 refine I.step (g':=s.gens) (d':=s.drawn) (ch:=[e,it]) (fun b hb=>?_) (fun b o _ _ hc q _=>k b o (hm hc).1 (hm hc).2 q) (fun b o _ _ hc q _=>⟨o.slots,k b o (hm hc).1 (hm hc).2 q⟩) (fun b o _ q n=>?_)
  (fun b o hc q=>⟨o,k b o (hm hc).1 (hm hc).2 q⟩) (fun b xs q=>by rw [zf (ze q hn)];exact q) (fun b o u q=>by rw [zf (ze q hn)];exact q) (fun b ps q=>⟨#[],by rw [zf (ze q hn),q];simp⟩) (fun m hm'=>?_) (fun b u q=>?_) I.bare
 ·rcases kF.mp hb with z | z
  ·subst z;exact ⟨fe.2.2.2.1,fe.2.1,fe.2.2.2.2.1,fe.2.2.2.2.2⟩
  ·have z:b=it:=by simpa using z
   subst z;exact ⟨fi.2.2.2.1,fi.2.1,fi.2.2.2.2.1,fi.2.2.2.2.2⟩
 ·rw [zf (Nat.ne_of_lt (Heap.lt_size q))];exact n
 ·obtain ⟨o,es,ep,ho,r⟩:=hm'
  exact ⟨o,es,ep,k _ o (Ne.symm fe.2.1) (Ne.symm fi.2.1) ho,r⟩
 ·by_cases hb:b=s.heap.objs.size
  ·subst hb;rw [zb] at q;cases q;exact new
  ·rw [zf hb] at q
   refine (I.hok b u q).stay (fun c v hc z=>?_) (fun c z=>by rw [zf (ze z hn)];exact z) fun c xs z=>by rw [zf (ze z hn)];exact z
   rcases hc with y | y
   ·subst y;exact k c v (nit c u q).1 (nit c u q).2 z
   ·exact k c v (nit c _ y).1 (nit c _ y).2 z
noncomputable def Ite (K:ky) (a:Addr):It:=
 ⟨fun i H=>∃xs x,SqL K H a xs∧xs[i]?=some x,fun i H x H'=>∃p y,x=.ref p∧H p=none∧H'=upd H p (.tup [.int i,y])∧∀xs,SqL K H a xs→xs[i]?=some y,fun i H=>∃xs,SqL K H a xs∧xs.length≤i⟩
theorem z2F {P:Program} {w:World} {K:ky} {elts:List Expr} {x1} {pos:Pos} (a e it:Addr) (hei:e≠it):Turn P w K (.Tuple elts x1 pos) (Ite K a) [e,it] e (fun i h=>(∃old,IsEnum h e it i old)∧h.IsListIter it a i) where
 mem:=by simp
 obj:=fun i h st b hb=>by
  rcases kF.mp hb with z | z
  ·subst z
   obtain ⟨old,q⟩:=st.1
   exact ⟨_,q,fun v y=>by cases y⟩
  ·have z:b=it:=by simpa using z
   subst z
   obtain ⟨o,q,c,d⟩:=st.2
   exact ⟨o,q,fun v z=>by rw [d] at z;cases z⟩
 keep:=fun i h h' st k=>⟨let ⟨old,q⟩:=st.1;⟨old,k e (by simp) _ q⟩,st.2.at fun o q=>k it (by simp) o q⟩
 item:=by
  intro X hP hw hK hc i pins s σ H E I hf st hg
  subst hP hw hK
  obtain ⟨xs,x,hq,hx⟩:=hg
  obtain ⟨its,rv,p,hz⟩:=I.list hq
  obtain ⟨u,hu,ru⟩:=rv.get hx
  obtain ⟨⟨old,he⟩,hit⟩:=st
  have fe:=hf e (by simp)
  have fi:=hf it (by simp)
  refine wpAny_pyNext_enum_item he hit p.isList (x:=u) (by simpa using hu) hei fun h' ho hit' hT hsz hk=>?_
  refine ⟨_,rfl,?_⟩
  have new:qL X.prog X.w (upd H s.heap.objs.size (.tup [.int i,x])) h' s.heap.objs.size (.tup [.int i,x]):=⟨by show 2≤sizeLine;decide,[.int i s.toks,u],.cons ⟨_,rfl⟩ (.cons ru .nil),_,hT,rfl,_,rfl⟩
  obtain ⟨oi,ei,_⟩:=id hit'
  have I1:Inv X pins σ (upd H s.heap.objs.size (.tup [.int i,x])) { s with heap:=h',toks:=s.toks+1 }:=I.turned2 hk (fun b hb=>by
   rcases kF.mp hb with z | z
   ·subst z;exact ⟨_,ho⟩
   ·have z:b=it:=by simpa using z
    subst z;exact ⟨_,ei⟩) fe fi new
  have ne1:e≠s.heap.objs.size:=Nat.ne_of_lt (Heap.lt_size he)
  have ne2:it≠s.heap.objs.size:=by obtain ⟨o2,e2,_⟩:=hit;exact Nat.ne_of_lt (Heap.lt_size e2)
  refine wpAny_letOwnedTupleGo_enum (s:={ s with heap:=h',toks:=s.toks+1 }) ho fun h2 he2 hs2=>?_
  have he2':IsEnum h2 e it (((i+1:Nat)):Int) u:=by simpa using he2
  refine ⟨.ref s.heap.objs.size,_,I1.turned (t':=s.toks+1) (it:=e) (fun b o hb q=>(hs2.2 b hb).trans q) (by rw [zf ne1];exact fe.1) fe.2.1 fe.2.2.2.1 fe.2.2.2.2.1 fe.2.2.2.2.2,rfl,⟨_,x,rfl,I.fresh,rfl,fun ys hy=>by rw [I.list_inj hy hq];exact hx⟩,⟨⟨u,he2'⟩,hit'.at fun o q=>(hs2.2 it hei.symm).trans q⟩,fun b hb=>?_⟩
  rcases kF.mp hb with z | z
  ·subst z;rw [zf ne1];exact fe.1
  ·have z:b=it:=by simpa using z
   subst z;rw [zf ne2];exact fi.1
 done:=by
  intro X hP hw hK hc i pins s σ H E I hf st hg
  subst hP hw hK
  obtain ⟨xs,hq,hx⟩:=hg
  obtain ⟨its,rv,p,hz⟩:=I.list hq
  obtain ⟨⟨old,he⟩,hit⟩:=st
  obtain ⟨f0,f1,f2,f3,f4,f5⟩:=hf it (by simp)
  have hl:=rv.length
  exact wpAny_pyNext_enum_end (I.ok.hd hc) he hit p.isList (by simp;lia) fun h' eb=>⟨rfl,I.turned (t':=s.toks) (fun b o hb e=>eb b o hb e) f0 f1 f3 f4 f5⟩
 self:=fun _ _ _ _ _ st h=>let ⟨old,he⟩:=st.1;wpAny_pyIter_enum he h
section
variable {X:Cx}
def z9A (K:ky) (ta:TA):TI:=fun σ H R=>ta σ H fun vs H1=>∃a,vs=[.ref a]∧(∃xs,SqL K H1 a xs)∧R (Ite K a) H1
theorem z19 {a:Expr} {ta:TA} {p pos:Pos} {elts:List Expr} {x1} {tp:Pos} (hg:Gl X "enumerate") (hm:X.mg "enumerate"=none) (ha:PA X [a] ta) (hs:autoParam (starEach [a] X.env=[(false,eval a X.env)]) aR._auto_1):PI X (.Tuple elts x1 tp) (.Call (.Name "enumerate" p) [a] [] pos) (z9A X.K ta):=by
 intro pins s σ H R I h
 refine Call_ (z0s I hg hm boot_enumerate (PyProof.Rows.callWith_type1 (thn (ha pos pins s σ H _ I h) fun us s1 ⟨vs,H1,I1,r1,q1⟩=>?_) hs rfl))
 obtain ⟨l,e,⟨xs,hq⟩,q⟩:=q1
 subst e
 cases r1 with
 | cons r rr=>
  cases rr
  cases r
  obtain ⟨its,rv,p,hz⟩:=I1.list hq
  refine call_enumerate_list p.isList fun h' he hit hsz hk=>?_
  refine wpAny_pyIter_enum (s:={ s1 with heap:=h' }) he ?_
  have I2:Inv X pins σ H1 { s1 with heap:=h' }:=I1.kept (t':=s1.toks) hk
  have n0:H1 s1.heap.objs.size=none:=I1.fresh
  have n1:H1 (s1.heap.objs.size+1)=none:=I1.hok.fresh (Nat.le_succ _)
  refine ⟨s1.heap.objs.size+1,[s1.heap.objs.size+1,s1.heap.objs.size],_,_,H1,rfl,I2,z2F l _ _ (Nat.succ_ne_self _),⟨⟨_,he⟩,hit⟩,fun b hb=>?_,q⟩
  rcases kF.mp hb with z | z
  ·subst z;exact I1.fpOk (Nat.le_succ _) n1
  ·have z:b=s1.heap.objs.size:=by simpa using z
   subst z;exact I1.fpOk (ke _) n0
end
theorem JS {K:ky} {a:Addr} {xs:List V} {g:TG} {tb:TS} {D:Ends} {σ:St} {H:Hp} (Pv:Nat→St→Hp→Prop) (h0:Pv 0 σ H) (hl:∀i σ H,i≤xs.length→Pv i σ H→SqL K H a xs)
  (hs:∀(i:Nat) x σ H p,xs[i]?=some x→Pv i σ H→H p=none→g (.ref p) σ (upd H p (.tup [.int i,x])) fun σ2 H2=>tb { D with nx:=Pv (i+1),ct:=Pv (i+1),bk:=D.nx } σ2 H2) (hd:∀σ H,Pv xs.length σ H→D.nx σ H):
  ∃W:Nat→Nat→St→Hp→Prop,(∃m,W 0 m σ H)∧∀i m σ H,W i m σ H→
   ((Ite K a).stop i H∧D.nx σ H)∨((Ite K a).go i H∧∃N:St→Hp→Prop,(∀σ' H',N σ' H'→∃m',m' < m∧W (i+1) m' σ' H')∧∀x H',(Ite K a).yld i H x H'→g x σ H' fun σ2 H2=>tb { D with nx:=N,ct:=N,bk:=D.nx } σ2 H2):=by
 refine ⟨fun i m σ H=>m=xs.length - i∧i≤xs.length∧Pv i σ H,⟨xs.length,by simp,Nat.zero_le _,h0⟩,?_⟩
 rintro i m σ H ⟨rfl,hi,p⟩
 have q:=hl i σ H hi p
 by_cases hlt:i < xs.length
 ·refine .inr ⟨⟨xs,xs[i],q,by simp [hlt]⟩,Pv (i+1),fun σ' H' p'=>⟨xs.length - (i+1),by lia,rfl,hlt,p'⟩,fun x H' y=>?_⟩
  obtain ⟨p',y',rfl,hn,rfl,y⟩:=y
  exact hs i y' σ _ p' (y xs q) p hn
 ·have e:i=xs.length:=by lia
  subst e
  exact .inl ⟨⟨xs,q,ke _⟩,hd σ H p⟩
end L2
namespace L2
open PySem PySem.Spec PyProof.Rows
section
variable {X:Cx}
def rS0 (f:Str→V):V→List V→Hp→VK→Prop:=fun x vs H Q=>∃z,x=.str z∧vs=[]∧Q (f z) H
theorem z2g:MtM X "str.isascii" (rS0 fun z=>.bl (Txt.isascii z)):=by
 intro pins s σ H x vs v us Q I rx rv h
 obtain ⟨z,rfl,rfl,q⟩:=h
 obtain ⟨t,rfl⟩:=rx
 cases rv
 exact SC.isascii ⟨.bl _,H,I,rfl,q⟩
theorem z2h:MtM X "str.isalpha" (rS0 fun z=>.bl (Txt.isalpha z)):=by
 intro pins s σ H x vs v us Q I rx rv h
 obtain ⟨z,rfl,rfl,q⟩:=h
 obtain ⟨t,rfl⟩:=rx
 cases rv
 exact SC.isalpha ⟨.bl _,H,I,rfl,q⟩
theorem z2f:MtM X "str.islower" (rS0 fun z=>.bl (Txt.islower z)):=by
 intro pins s σ H x vs v us Q I rx rv h
 obtain ⟨z,rfl,rfl,q⟩:=h
 obtain ⟨t,rfl⟩:=rx
 cases rv
 exact SC.islower ⟨.bl _,H,I,rfl,q⟩
theorem z4u {v:Expr} {pos:Pos} {t:TE} (h:PE X v t):PE X (.JoinedStr [v] pos) t:=fun pins s σ H Q I hq=>wpAny_JoinedStr_one (h pins s σ H Q I hq)
theorem zM:ZY X (.builtin "isinstance") (fun xs H Q=>∃x T t b,xs=[x,.ty T]∧TyOf X.K H x t∧PySem.W.kitOne X.K t (.type T)=some b∧Q (.bl b) H):=by
 intro pins s σ H xs us Q I r h
 obtain ⟨x,T,t,b,rfl,ty,e,q⟩:=h
 obtain ⟨u,u2,rfl,ru,r2⟩:=z5V r
 cases r2
 exact z3v I ru ty e fun tk=>⟨.bl b,H,I.tok tk,rfl,q⟩
theorem z84:OpR X (compareOp .Is) (fun x y H Q=>∃b,y=.bl b∧Q (.bl (decide (x=.bl b))) H):=by
 intro pins s σ H x y v u Q I rx ry h
 obtain ⟨b,rfl,q⟩:=h
 cases ry
 cases x with
 | non=>cases rx;exact PySem.wpAny_is_plain rfl (zR I q (by cases b <;> rfl))
 | bl c=>cases rx;exact PySem.wpAny_is_plain rfl (zR I q (by cases b <;> cases c <;> rfl))
 | int i=>obtain ⟨t,rfl⟩:=rx;exact PySem.wpAny_is_plain rfl (zR I q rfl)
 | str z=>obtain ⟨t,rfl⟩:=rx;exact PySem.wpAny_is_plain rfl (zR I q rfl)
 | byt z=>obtain ⟨t,rfl⟩:=rx;exact PySem.wpAny_is_plain rfl (zR I q rfl)
 | flt z=>obtain ⟨t,rfl⟩:=rx;exact PySem.wpAny_is_plain rfl (zR I q rfl)
 | ref a=>cases rx;exact PySem.wpAny_is_plain rfl (zR I q rfl)
 | ty n=>cases rx;exact PySem.wpAny_is_plain rfl (zR I q rfl)
end
end L2
namespace L2
open PySem PySem.Spec PyProof.Rows
def KTab (P:Params) (K:ky) (d:Addr) (tab:List (Str × V)):Prop:=
 ∃es n,K.lookup d=some ⟨.type "dict",none,.dict es n,#[]⟩∧PySem.W.KeysLit P es.toList∧(d == sysModules)=false∧Paired (fun (p:Str × V) (e:DictEntry)=>(∃t,e.key=.str p.1 t)∧RelV p.2 e.val) tab es.toList
theorem z0u {x:Str}:∀{tab:List (Str × V)} {es:List DictEntry},Paired (fun (p:Str × V) (e:DictEntry)=>(∃t,e.key=.str p.1 t)∧RelV p.2 e.val) tab es→
  RelO (tab.lookup x) ((es.find? fun e=>Value.isStrOf x e.key).map (·.val))
 | _,_,.nil=>trivial
 | (k,v) :: tab,e :: es,.cons ⟨⟨t,hk⟩,hv⟩ r=>by
  have ih:=z0u (x:=x) r
  by_cases hx:x=k
  ·subst hx
   have h1:((x,v) :: tab).lookup x=some v:=by simp [List.lookup]
   have h2:(e :: es).find? (fun e=>Value.isStrOf x e.key)=some e:=by
    rw [List.find?_cons,hk]
    simp [Value.isStrOf]
   rw [h1,h2]
   exact hv
  ·have h1:((k,v) :: tab).lookup x=tab.lookup x:=by
    rw [List.lookup_cons]
    have:(x == k)=false:=by simpa using hx
    rw [this]
   have h2:(e :: es).find? (fun e=>Value.isStrOf x e.key)=es.find? (fun e=>Value.isStrOf x e.key):=by
    rw [List.find?_cons,hk]
    have:Value.isStrOf x (Value.str k t)=false:=by simpa [Value.isStrOf] using fun z=>hx z.symm
    rw [this]
   rw [h1,h2]
   exact ih
section
variable {X:Cx}
theorem JH {P:Params} {K:ky} {prog:Program} {w:World} {h:Heap} {d:Addr} {tab:List (Str × V)} (hP:P=w.params) (t:KTab P K d tab) (kin:K.In h):
  ∃f,h.MapOf (strKind prog w) d f∧(d == sysModules)=false∧∀x,RelO (tab.lookup x) (f x):=by
 subst hP
 obtain ⟨es,n,hl,hk,hd,hp⟩:=t
 refine ⟨_,PySem.W.mapOf_K (prog:=prog) kin hl hk,hd,fun x=>?_⟩
 have q:=z0u (x:=x) hp
 show RelO _ (findBy Value.isStrOf es x)
 unfold findBy
 rw [←Array.find?_toList]
 exact q
def z93 (tab:List (Str × V)) (ty:TE):TE:=fun σ H Q=>ty σ H fun y H1=>∃x v,y=.str x∧tab.lookup x=some v∧Q v H1
theorem Jy {nm:Str} {i:Expr} {p pos:Pos} {d:Addr} {tab:List (Str × V)} {ty:TE} (T:KTab X.w.params X.K d tab) (hg:Gl X nm) (hm:X.mg nm=some (.ref d)) (hi:PE X i ty) (hs:NoSl i) (hd:autoParam ((nm == ("__debug__":Str))=false) aR._auto_2):
  PE X (.Subscript (.Name nm p) i pos) (z93 tab ty):=by
 intro pins s σ H Q I h
 refine z2J PySem.F.slot_dict_getitem.lookup hs (Q7 I hg hm (thn (hi pins s σ H _ I h) fun iv s2 ⟨y,H2,I2,ry,x,v,ex,l,q⟩=>?_) hd)
 subst ex
 obtain ⟨t,rfl⟩:=ry
 obtain ⟨f,mo,_,hf⟩:=JH (prog:=X.prog) (w:=X.w) rfl T I2.kIn
 have hf:=hf x
 rw [l] at hf
 obtain ⟨w',e',rw'⟩:=RelO.some_of hf
 exact ⟨mo.typeIs,wpAny_getItem_of (strKind_is X.prog X.w x t) mo e' ⟨v,H2,I2.tok _,rw',q⟩⟩
def tKIn (tab:List (Str × V)) (ty:TE):TE:=fun σ H Q=>ty σ H fun y H1=>∃x,y=.str x∧Q (.bl (tab.lookup x).isSome) H1
theorem z81 {nm:Str} {i:Expr} {p:Pos} {d:Addr} {tab:List (Str × V)} {ty:TE} (T:KTab X.w.params X.K d tab) (hg:Gl X nm) (hm:X.mg nm=some (.ref d)) (hi:PE X i ty) (hd:autoParam ((nm == ("__debug__":Str))=false) aR._auto_2):
  PC X .In i (.Name nm p) (tKIn tab ty):=by
 intro pins s σ H Q I h
 refine thn (hi pins s σ H _ I h) fun iv s1 ⟨y,H1,I1,ry,x,ex,q⟩=>Q7 I1 hg hm ?_ hd
 subst ex
 obtain ⟨t,rfl⟩:=ry
 obtain ⟨f,mo,lo,hf⟩:=JH (prog:=X.prog) (w:=X.w) rfl T I1.kIn
 refine wpAny_in_of (strKind_is X.prog X.w x t) lo mo ⟨.bl _,H1,I1.tok _,rfl,?_⟩
 rw [←RelO.isSome_eq (hf x)]
 exact q
def z7B (X:Cx) (i:Nat) (t:TA):TE:=fun σ H Q=>∃(f:Addr) (fd:FuncData) (ps:List Str) (sp:Sp) (k:Nat),σ[i]?=some (some (.ref f))∧PySem.W.keepIn X.K (.ref f)=true∧FnOk X.prog X.w X.K X.mg X.base CX0 k f fd ps sp∧Room k X.A∧Zd X.K fd ps []∧
 t σ H fun vs H1=>sp vs H1 Q E0
theorem JB {i:Nat} {x:Str} {p pos:Pos} {e:Expr} {es:List Expr} {t:TA} (hv:PE X (.Name x p) (tVar i)) (ha:PA X (e :: es) t)
  (he:autoParam (starEach (e :: es) X.env=(false,eval e X.env) :: starEach es X.env) aR._auto_1) (hpl:autoParam ((backTo pos (starEach es X.env)).any (·.1)=false) aR._auto_1):
  PE X (.Call (.Name x p) (e :: es) [] pos) (z7B X i t):=by
 intro pins s σ H Q I h
 obtain ⟨f,fd,ps,sp,k,hσ,hk,F,hr,hb,h⟩:=h
 refine wpAny_Call_Name_kw (thn (hv pins s σ H (fun v H1=>v=.ref f∧H1=H) I ⟨.ref f,hσ,rfl,rfl⟩) fun u s1 zz=>?_)
 obtain ⟨v,H1,I1,r1,e1,e2⟩:=zz
 subst e1
 subst e2
 cases r1
 refine PySem.W.callWith_K (h₀:=X.base) I1.ok.mod.kin hk (thn (ha pos pins s1 σ _ _ I1 h) fun us s2 ⟨vs,H2,I2,r,q⟩=>⟨I2.kIn,?_⟩) he hpl
 exact z1z F hr hb .nil z2e I2 r (by rw [kY];exact q)
def rEqE (K:ky):R2:=fun x y H Q=>∃p q xs,x=.ref p∧y=.ref q∧SqL K H p xs∧SqL K H q []∧Q (.bl (decide (xs=[]))) H
theorem z5L (hu:X.A.units < cLine):OpR X (compareOp .Eq) (rEqE X.K):=by
 intro pins s σ H x y v u Q I rx ry h
 obtain ⟨p,q,xs,rfl,rfl,h1,h2,hq⟩:=h
 cases rx
 cases ry
 obtain ⟨its,r,pl,_⟩:=I.list h1
 obtain ⟨its2,r2,pl2,_⟩:=I.list h2
 cases r2
 cases r with
 | nil=>
  refine SeqAt.eq_listAt (e:=fun _=>true) pl.isList pl2.isList rfl hu (fun j h1 _=>absurd h1 (by simp)) ⟨.bl _,H,I,rfl,?_⟩
  simpa using hq
 | cons a b=>
  refine SeqAt.eq_list_lengthsAt pl.isList pl2.isList (by simp) hu ⟨.bl _,H,I,rfl,?_⟩
  simpa using hq
theorem z04:∀{as:List Addr} {us:List Value},Vals (as.map V.ref) us→us=as.map Value.ref:=by
 intro as
 induction as with
 | nil=>intro us r;cases r;rfl
 | cons a r ih=>
  intro us h
  cases h with
  | cons x y=>cases x;rw [ih y];rfl
def z5Z (td ty tx:TE):TE:=fun σ H Q=>td σ H fun x H1=>∃a,x=.ref a∧IsD H1 a∧ty σ H1 fun y H2=>tx σ H2 fun z H3=>∃kvs k,H3 a=some (.dK kvs)∧y=kV k∧kvs.length < sizeLine∧
 match valV kvs k with
 | some v=>Q v H3
 | none=>Q z (upd H3 a (.dK (putK kvs k z)))
theorem z39 {o e f:Expr} {apos cpos:Pos} {td ty tx:TE} (ho:PE X o td) (he:PE X e ty) (hf:PE X f tx) (m:M2 X o "setdefault" apos e f cpos):PE X (.Call (.Attribute o "setdefault" apos) [e,f] [] cpos) (z5Z td ty tx):=by
 intro pins s σ H Q I h
 refine wpAny_Call_method m.base m.few m.line PySem.F.plainAttrs_dict PySem.F.slot_dict_setdefault PySem.F.type_dict_setdefault (thn (ho pins s σ H _ I h) fun u s1 zz=>?_)
 obtain ⟨x,H1,I1,rx,a,ex,d,q1⟩:=zz
 subst ex
 obtain rfl:u=Value.ref a:=rx
 obtain ⟨t1,t2,_⟩:=z3w I1 d
 refine ⟨t1,t2,?_⟩
 rw [m.trees]
 refine Calls.callWith_builtin rfl (Calls.evalArgs_plain (Calls.spliced_cons (thn (he pins s1 σ H1 _ I1 q1) fun iv s2 ⟨y,H2,I2,ry,q2⟩=>
  Calls.spliced_cons (thn (hf pins s2 σ H2 _ I2 q2) fun fv s3 ⟨z,H3,I3,rz,kvs,k,ea,ek,hz,q3⟩=>Calls.spliced_nil ?_))))
 subst ek
 obtain ⟨hl,lo,vs,rel,dd⟩:=z2A I3.hok ea
 have lenr:=rel.length
 have hargs:argsOk "dict.setdefault" ⟨[.ref a,iv,fv],[]⟩:=PySem.F.args_dict_setdefault_3 _ _ _
 show wpAny (model X.prog X.w) X.A (call (.builtin "dict.setdefault") [.ref a,iv,fv]) _ _ _
 refine call_meetsIn PySem.F.slot_dict_setdefault dd.typeIs PySem.F.entry_dict_setdefault hargs (kt_meets_setdefault (qd X.prog X.w) a (JJ ry) lo fv) ⟨vs,dd,by lia,fun v hv=>?_,fun hn h' dd' sb=>?_⟩
 ·cases l:valV kvs k with
  | none=>
   have:=rel.val k
   rw [l,hv] at this
   exact this.elim
  | some w'=>
   have r:=rel.val k
   rw [l,hv] at r
   rw [l] at q3
   exact ⟨w',H3,I3.tok _,r,q3⟩
 ·cases l:valV kvs k with
  | some w'=>
   have r:=rel.val k
   rw [l,hn] at r
   exact r.elim
  | none=>
   rw [l] at q3
   refine ⟨z,_,QR I3 (ob:=.dK (putK kvs k z)) (by rw [ea];exact trivial) sb ?_ (z0F (ku (qS kvs k z) hz) lo (rel.put k rz) dd'),rz,q3⟩
   obtain ⟨ob,_,_,e,_⟩:=dd'
   exact ⟨ob,e⟩
end
end L2
namespace L2
open PySem PySem.Spec PyProof.Rows
theorem z0H {prog:Program} {w:World} {A:Around} {R:Result→Shared→Prop} {s:Shared} {elt target iter:Expr} {ifs:List Expr} {scope:Scope} {pos:Pos} {it acc:Value} {env:Env} (I:Nat→Shared→Prop)
  (turn:∀n s,I n s→wpAny (model prog w) A (pyNext it) (fun r s₁=>match r with
   | none=>R (.ok .next) s₁
   | some v=>wpAny (model prog w) A (letOwnedTupleGo target it v) (fun _ s₁'=>wpAny (model prog w) A (assign target env v) (fun _ s₂=>
     wpAny (model prog w) A (forIn ifs true fun c r=>if r=true then do let ok ←isTrue c env (eval c env);pure (ForInStep.yield ok) else pure (ForInStep.yield r)) (fun ok s₃=>
     if ok=true then wpAny (model prog w) A (eval elt env) (fun x s₃'=>
      wpAny (model prog w) A (call (.builtin "list.append") [acc,x]) (fun _ s₄=>∃m,m < n∧I m s₄) (fun _ _=>False) s₃') (fun _ _=>False) s₃
     else ∃m,m < n∧I m s₃)
     (fun _ _=>False) s₂) (fun _ _=>False) s₁') (fun _ _=>False) s₁) (fun _ _=>False) s)
  (n:Nat) (h:I n s):codeAny (model prog w) A (.compLoop (.ListComp elt [⟨target,iter,ifs,0⟩] scope pos) 0 it acc env) R s:=by
 refine codeAny_loop rfl I (fun n s hI=>?_) n h
 show wpAny _ _ ((compTurn (.ListComp elt [⟨target,iter,ifs,0⟩] scope pos) 0 it acc env).onRaise (fun x=>do noteFrame x env;theTreesLotGoes x)) _ _ s
 refine wpAny_noted ?_
 rw [compTurn_list]
 refine wpAny_bind (wpAny_standAt (wpAny_bind (wpAny_mono (turn n s hI) (fun r s₁ h₁=>?_) fun _ _ h'=>h'.elim)))
 cases r with
 | none=>exact wpAny_pure h₁
 | some v=>
  refine wpAny_bind (wpAny_mono h₁ (fun _ s₁' h₁'=>?_) fun _ _ h'=>h'.elim)
  refine wpAny_bind (wpAny_mono h₁' (fun _ s₂ h₂=>wpAny_bind (wpAny_mono h₂ (fun ok s₃ h₃=>?_) fun _ _ h'=>h'.elim)) fun _ _ h'=>h'.elim)
  cases ok with
  | true=>
   rw [kC rfl] at h₃ ⊢
   exact wpAny_bind (wpAny_bind (wpAny_mono h₃ (fun x s₃' h₃'=>wpAny_bind (wpAny_mono h₃' (fun _ s₄ h₄=>wpAny_pure (wpAny_pure ⟨rfl,h₄⟩)) fun _ _ h'=>h'.elim)) fun _ _ h'=>h'.elim))
  | false=>
   rw [kz ka] at h₃ ⊢
   exact wpAny_bind (wpAny_pure (wpAny_pure ⟨rfl,h₃⟩))
noncomputable abbrev qA (X:Cx) (N:List Str) (scope:Scope) (cl:List (Str × Addr)) (s:Shared) (H:Hp) (fp:List Addr) (C:Addr):Cx where
 prog:=X.prog
 w:=X.w
 K:=X.K
 mg:=X.mg
 base:=X.base
 A:=X.A
 N:=N
 s₀:=s
 H₀:=H
 env:=compEnvC scope cl C X.env
 outer:=X.stack
 stack:=X.stack
 ex:=fp
 fn:=fun _=>false
 calm:=true
 pn:=[]
 xe:=fun _ _=>False
structure Zm (X:Cx) (N:List Str) (nt:Nat) (ix:List Nat) (scope:Scope) (cl:List (Str × Addr)):Prop where
 clos:closureFor scope X.env=pure cl
 nocell:∀y∈scope.names,y.2≠.cell
 kind:scope.kind=.function
 names:∀y∈scope.names,y.2=.local→scope.names.lookup y.1=some .local
 sub:∀x c,cl.lookup x=some c→X.env.cells.lookup x=some c
 has:∀x,((relabel scope X.env).names.lookup x=some .cell∨(relabel scope X.env).names.lookup x=some .free)→∃c,cl.lookup x=some c
 len:N.length=nt+ix.length
 free:∀j x,N[nt+j]?=some x→∃i,ix[j]?=some i∧X.N[i]?=some x∧X.env.kindOf x=some .cell∧(relabel scope X.env).names.lookup x=some .cell∧∀c,X.env.cells.lookup x=some c→cl.lookup x=some c
noncomputable def Qe (nt:Nat) (ix:List Nat) (σ:St):St:=List.replicate nt none++ix.map fun i=>(σ[i]?).join
def PTs (X:Cx) (ifs:List Expr) (tc:TT):Prop:=
 ∀(pins:List (Addr × Obj)) (s:Shared) (σ:St) (H:Hp) (Q:Bool→Hp→Prop),Inv X pins σ H s→tc σ H Q→
  wpAny (model X.prog X.w) X.A (forIn ifs true fun c r=>if r=true then do let ok ←isTrue c X.env (eval c X.env);pure (ForInStep.yield ok) else pure (ForInStep.yield r)) (TP X pins σ Q) X.xe s
def tAll:TT:=fun _ H Q=>Q true H
theorem z14 {X:Cx}:PTs X [] tAll:=fun pins s σ H Q I h=>wpAny_tests_nil ⟨H,I,h⟩
theorem z6k {X:Cx} {c:Expr} {tc:TT} (h:PT X c tc):PTs X [c] tc:=fun pins s σ H Q I hq=>wpAny_tests_one (h pins s σ H Q I hq)
def z5r (nt:Nat) (ix:List Nat) (wi:TI) (g:TG) (tc:TT) (te:TE):TE:=fun σ H Q=>wi σ H fun J H1=>∀l,H1 l=none→∃W:Nat→Nat→List V→St→Hp→Prop,(∃m,W 0 m [] (Qe nt ix σ) (upd H1 l (.lst [])))∧∀i m ys σ' H2,W i m ys σ' H2→
 (J.stop i H2∧Q (.ref l) H2)∨(J.go i H2∧∀x H3,J.yld i H2 x H3→g x σ' H3 fun σ2 H4=>tc σ2 H4 fun b H5=>if b=true then te σ2 H5 fun v H6=>H6 l=some (.lst ys)∧ys.length < sizeLine∧∃m',m' < m∧W (i+1) m' (ys++[v]) σ2 (upd H6 l (.lst (ys++[v])))
  else ∃m',m' < m∧W (i+1) m' ys σ2 H5)
section
variable {X:Cx}
theorem Zs {elt iter tg:Expr} {ifs:List Expr} {N:List Str} {nt:Nat} {ix:List Nat} {scope:Scope} {cl:List (Str × Addr)} {pos:Pos} {pins:List (Addr × Obj)} {σ:St} {H:Hp} {s:Shared} {it:Addr} {fp:List Addr} {tn:Nat→Heap→Prop} {J:It} {g:TG} {tc:TT} {te:TE} {Q:VK} {E:Value→Shared→Prop}
  {RR:Value→Addr→Result→Shared→Prop}
  (hc:X.calm=true) (sc:Zm X N nt ix scope cl) (I:Inv X pins σ H s) (T:Turn X.prog X.w X.K tg J fp it tn) (st:tn 0 s.heap) (hf:∀b∈fp,FpOk X pins H b)
  (hg:∀(s:Shared) (H:Hp) (fp:List Addr) (C:Addr),PG (qA X N scope cl s H fp C) tg g)
  (ht:∀(s:Shared) (H:Hp) (fp:List Addr) (C:Addr),PTs (qA X N scope cl s H fp C) ifs tc)
  (he:∀(s:Shared) (H:Hp) (fp:List Addr) (C:Addr),PE (qA X N scope cl s H fp C) elt te)
  (h:∀l,H l=none→∃W:Nat→Nat→List V→St→Hp→Prop,(∃m,W 0 m [] (Qe nt ix σ) (upd H l (.lst [])))∧∀i m ys σ' H2,W i m ys σ' H2→
   (J.stop i H2∧Q (.ref l) H2)∨(J.go i H2∧∀x H3,J.yld i H2 x H3→g x σ' H3 fun σ2 H4=>tc σ2 H4 fun b H5=>if b=true then te σ2 H5 fun v H6=>H6 l=some (.lst ys)∧ys.length < sizeLine∧∃m',m' < m∧W (i+1) m' (ys++[v]) σ2 (upd H6 l (.lst (ys++[v])))
    else ∃m',m' < m∧W (i+1) m' ys σ2 H5))
  (hRR:∀D C s' H' m,Inv X pins σ H' s'→s'.heap.Ns C m→C≠X.env.locals→H' C=none→X.s₀.heap.objs.size≤C→(∀x c,X.env.cells.lookup x=some c→c≠C)→(∀p∈X.pn++pins,p.1≠C)→Q (.ref D) H'→RR (.ref D) C (.ok .next) s'):
  wpAny (model X.prog X.w) X.A (newList []) (fun acc s₃=>wpAny (model X.prog X.w) X.A (newFunctionEnv scope X.env.globals cl [] X.env.qual none .none (some X.env)) (fun cenv s₄=>
   codeAny (model X.prog X.w) X.A (.compStart (.ListComp elt [⟨tg,iter,ifs,0⟩] scope pos) 0 (.ref it) acc { cenv with scope:=relabel scope X.env }) (RR acc cenv.locals) s₄) E s₃) E s:=by
 refine wpAny_newObj_type ?_
 have I3:Inv X pins σ (upd H s.heap.objs.size (.lst [])) { s with heap:=s.heap.push { cls:=.type "list",data:=.seq ([]:List Value).toArray } }:=I.lnew (ys:=[]) (its:=[]) (t':=s.toks) .nil (Nat.zero_le _)
 have st3:tn 0 (s.heap.push { cls:=.type "list",data:=.seq ([]:List Value).toArray }):=T.keep _ _ _ st fun b hb o e=>Heap.get?_push_of_some _ e
 have fpl:∀b∈fp,b < s.heap.objs.size:=fun b hb=>by
  obtain ⟨o,e,_⟩:=T.obj _ _ st b hb
  exact Heap.lt_size e
 obtain ⟨W,⟨m0,w0⟩,turn⟩:=h s.heap.objs.size I.fresh
 have hf3:∀b∈fp,FpOk X pins (upd H s.heap.objs.size (.lst [])) b:=fun b hb=>⟨by rw [zf (Nat.ne_of_lt (fpl b hb))];exact (hf b hb).1,(hf b hb).2⟩
 generalize hD:s.heap.objs.size=D at *
 generalize hH3:upd H D (HO.lst [])=H3 at *
 generalize hs3:({ s with heap:=s.heap.push { cls:=.type "list",data:=.seq ([]:List Value).toArray } }:Shared)=s3 at *
 have hsz3:s3.heap.objs.size=D+1:=by rw [←hs3,←hD];exact Heap.size_push ..
 have st3':tn 0 s3.heap:=by rw [←hs3];exact st3
 refine wpAny_newFunctionEnv (s:=s3) sc.nocell (by intro y hy;simp at hy) (fun h1 hns hsb=>?_) sc.kind
 generalize hC:s3.heap.objs.size=C at *
 have kept:∀b o,s3.heap.get? b=some o→h1.get? b=some o:=fun b o e=>hsb.extBut b o (by rw [←hC];exact Nat.ne_of_lt (Heap.lt_size e)) (Heap.get?_push_of_some _ e)
 show codeAny (model X.prog X.w) X.A (.compStart (.ListComp elt [⟨tg,iter,ifs,0⟩] scope pos) 0 (.ref it) (.ref D) (compEnvC scope cl C X.env)) (RR (.ref D) C) { s3 with heap:=h1,toks:=s3.toks+0 }
 have fpC:∀b∈fp,b≠C:=fun b hb=>Nat.ne_of_lt (kN (fpl b hb) (by rw [hsz3];exact Nat.le_succ D))
 have cellC:∀x c,cl.lookup x=some c→c≠C:=fun x c e z=>by
  obtain ⟨v,q⟩:=I3.cell x c (sc.sub x c e)
  have:=q.lt
  rw [hC,z] at this
  exact Nat.lt_irrefl _ this
 have ok:(qA X N scope cl s3 H3 fp C).Ok:={
  mod:=I.ok.mod,kind:=(show (relabel scope X.env).kind=.function from sc.kind),glob:=I.ok.glob,blt:=I.ok.blt,above:=ya hC
  inj:=fun y z c e e'=>I.ok.inj y z c (sc.sub y c e) (sc.sub z c e')
  has:=fun y hy=>sc.has y hy
  cab:=fun y c e _=>nomatch e
  hd:=fun _=>I.ok.hd hc
  frames:=I.ok.frames
  stk:=.inl rfl
  exf:=fun b hb=>⟨fpC b hb,fun y c e=>(hf3 b hb).2.2.2.2.1 y c (sc.sub y c e)⟩
  bs:=I3.bs
  bsz:=ku I.ok.bsz I3.sz
  noex:=fun b o e hb=>by
   obtain ⟨_,_,_,h4,_⟩:=hf3 b hb
   rcases h4 with z | z
   ·exact I.ok.noex b o e z
   ·exact absurd (kN (Heap.lt_size (I.ok.bs b o e).1) z) (Nat.lt_irrefl _)
  exfs:=fun b hb z=>by
   obtain ⟨_,h1,h2,_⟩:=hf3 b hb
   rcases kF.mp (I3.stkSub b z) with q | q
   ·exact h1 q
   ·exact h2 q
  funs:=I3.stack
  frf:=I3.stkFree }
 have cellK:∀c v,s3.heap.IsCell c v→h1.IsCell c v:=fun c v ⟨o,ho,hd⟩=>⟨o,kept c o ho,hd⟩
 have I4:Inv (qA X N scope cl s3 H3 fp C) [] (Qe nt ix σ) H3 { s3 with heap:=h1,toks:=s3.toks+0 }:={
  ok:=ok,os:=rfl,bare:=I3.bare,base:=Un.kept kept
  loc:=⟨_,hns,fun i y v e1 e2 _=>by
   have e2:(Qe nt ix σ)[i]?=some (some v):=e2
   unfold Qe at e2
   by_cases hi:i < nt
   ·rw [yi (by simpa using hi),List.getElem?_replicate,kC hi] at e2
    cases e2
   ·obtain ⟨j,rfl⟩:∃j,i=nt+j:=⟨i - nt,by lia⟩
    rw [yj (by simp),List.length_replicate,Nat.add_sub_cancel_left,List.getElem?_map] at e2
    obtain ⟨k,hk,hXN,hkind,hrel,hcl⟩:=sc.free j y e1
    rw [hk] at e2
    have e3:σ[k]?=some (some v):=by
     cases q:σ[k]? with
     | none=>rw [Option.map_some,q] at e2;cases e2
     | some o=>rw [Option.map_some,q] at e2;simpa using e2
    obtain ⟨m,_,hl⟩:=I3.loc
    obtain ⟨u,ru,lk⟩:=hl k y v hXN e3 (.inr (.inl hkind))
    refine ⟨u,ru,.inr ⟨.inl hrel,?_⟩⟩
    rcases lk with ⟨z,_⟩ | ⟨_,c,hcc,hcell⟩
    ·rw [hkind] at z;cases z
    ·exact ⟨c,hcl c hcc,cellK _ _ hcell⟩⟩
  cell:=fun y c e=>let ⟨v,q⟩:=I3.cell y c (sc.sub y c e);⟨v,cellK _ _ q⟩
  free:=I3.hok.fresh (ya hC)
  freeC:=fun y c e=>I3.freeC y c (sc.sub y c e)
  pin:=fun p hp=>absurd (show p∈([]:List (Addr × Obj)) from hp) (by simp)
  hok:=I3.hok.kept kept
  len:=by show (Qe nt ix σ).length=N.length;rw [sc.len];unfold Qe;simp }
 have st4:tn 0 h1:=T.keep _ _ _ st3' fun b hb o e=>kept b o e
 have stat:∀{H':Hp},(∀b∈fp,H' b=none)→∀b∈fp,FpOk (qA X N scope cl s3 H3 fp C) [] H' b:=fun hn b hb=>⟨hn b hb,fpC b hb,ok.exfs b hb,.inl hb,(fun y c e=>(hf3 b hb).2.2.2.2.1 y c (sc.sub y c e)),fun p hp=>absurd (show p∈([]:List (Addr × Obj)) from hp) (by simp)⟩
 have loop:codeAny (model X.prog X.w) X.A (.compLoop (.ListComp elt [⟨tg,iter,ifs,0⟩] scope pos) 0 (.ref it) (.ref D) (compEnvC scope cl C X.env)) (RR (.ref D) C) { s3 with heap:=h1,toks:=s3.toks+0 }:=by
  refine z0H (fun n s'=>∃i ys σ' H',Inv (qA X N scope cl s3 H3 fp C) [] σ' H' s'∧tn i s'.heap∧(∀b∈fp,H' b=none)∧W i n ys σ' H') ?_ m0 ⟨0,[],_,H3,I4,st4,fun b hb=>(hf3 b hb).1,w0⟩
  rintro n s5 ⟨i,ys,σ5,H5,I5,st5,fr5,w5⟩
  rcases turn i n ys σ5 H5 w5 with ⟨stop,qn⟩ | ⟨go,step⟩
  ·refine thn (T.done (qA X N scope cl s3 H3 fp C) rfl rfl rfl rfl i [] s5 σ5 H5 _ I5 (stat fr5) st5 stop) fun r s6 zz=>?_
   obtain ⟨hr,I6⟩:=zz
   subst hr
   obtain ⟨m6,n6,_⟩:=I6.loc
   refine hRR D C s6 H5 m6 (I3.call' I6.os I6.base I6.hok I6.bare fun b hb=>?_) n6 (Nat.ne_of_gt (by have:=I3.lt;rw [hC] at this;exact this)) I6.free (by have:=I3.sz;rw [hC] at this;exact this) (fun y c e z=>?_) (fun p hp z=>?_) qn
   ·obtain ⟨_,h1,_,h4,h5,h6⟩:=hf3 b hb
    exact ⟨h4,h1,h5,h6⟩
   ·obtain ⟨v,q⟩:=I3.cell y c e
    have:=q.lt
    rw [hC,z] at this
    exact Nat.lt_irrefl _ this
   ·have:=Heap.lt_size (I3.pin p hp).1
    rw [hC,z] at this
    exact Nat.lt_irrefl _ this
  ·refine thn (T.item (qA X N scope cl s3 H3 fp C) rfl rfl rfl rfl i [] s5 σ5 H5 _ I5 (stat fr5) st5 go) fun r s6 zz=>?_
   obtain ⟨u,hr,h6⟩:=zz
   subst hr
   refine thn h6 fun _ s7 zz=>?_
   obtain ⟨v,H7,I7,r7,y7,st7,fr7⟩:=zz
   have I7':=I7.pinned (stat fr7) (T.obj _ _ st7)
   refine thn (hg s3 H3 fp C _ s7 σ5 H7 v u _ I7' r7 (step v H7 y7)) fun _ s8 zz=>?_
   obtain ⟨σ8,H8,I8,q8⟩:=zz
   refine thn (ht s3 H3 fp C _ s8 σ8 H8 _ I8 q8) fun b s9 zz=>?_
   obtain ⟨H9,I9,q9⟩:=zz
   have again:∀{sE:Shared} {HE:Hp} {ysE:List V} {m':Nat},Inv (qA X N scope cl s3 H3 fp C) ([]++z0i fp s7.heap) σ8 HE sE→m' < n→W (i+1) m' ysE σ8 HE→∃m,m < n∧∃i ys σ' H',Inv (qA X N scope cl s3 H3 fp C) [] σ' H' sE∧tn i sE.heap∧(∀b∈fp,H' b=none)∧W i m ys σ' H':=fun {sE HE ysE m'} IE hm' wE=>by
    refine ⟨m',hm',i+1,ysE,σ8,HE,IE.unpinned (pins:=[]),T.keep _ _ _ st7 fun b hb o e=>(IE.pin (b,o) (kO _ (kO _ (Ze hb e)))).1,fun b hb=>?_,wE⟩
    obtain ⟨o,e,d⟩:=T.obj _ _ st7 b hb
    exact (IE.pin (b,o) (kO _ (kO _ (Ze hb e)))).2.1
   cases b with
   | false=>
    rw [kz ka] at q9 ⊢
    obtain ⟨m',hm',w9⟩:=q9
    exact again I9 hm' w9
   | true=>
    rw [kC rfl] at q9 ⊢
    refine thn (he s3 H3 fp C _ s9 σ8 H9 _ I9 q9) fun yv s10 zz=>?_
    obtain ⟨y,H10,I10,r10,q10⟩:=zz
    obtain ⟨hl9,hz9,m',hm',w9⟩:=q10
    obtain ⟨z9,its,k9,rv9,ll9,e9⟩:=I10.lstM hl9
    refine call_meets F.slot_list_append ⟨_,e9,rfl⟩ F.entry_list_append (F.args_list_append_2 _ _) (PySem.list_append D its.toArray k9 yv (by rw [kG];lia)) ⟨e9,?_⟩
    have I11:=I10.lset (t':=s10.toks) (its':=its++[yv]) (f:=(·.push yv)) hl9 e9 (by simp) (rv9.append (.cons r10 .nil)) (by rw [kl,kH];lia)
    exact again I11 hm' w9
 exact codeAny_compStart_list loop (T.self _ 0 _ _ _ st4 loop)
theorem z4v {elt iter tg:Expr} {ifs:List Expr} {N:List Str} {nt:Nat} {ix:List Nat} {scope:Scope} {cl:List (Str × Addr)} {pos:Pos} {wi:TI} {g:TG} {tc:TT} {te:TE} (hc:X.calm=true) (sc:Zm X N nt ix scope cl) (hi:PI X tg iter wi)
  (hg:∀(s:Shared) (H:Hp) (fp:List Addr) (C:Addr),PG (qA X N scope cl s H fp C) tg g)
  (ht:∀(s:Shared) (H:Hp) (fp:List Addr) (C:Addr),PTs (qA X N scope cl s H fp C) ifs tc)
  (he:∀(s:Shared) (H:Hp) (fp:List Addr) (C:Addr),PE (qA X N scope cl s H fp C) elt te) (hs:∀x,foldedSetIterable iter X.env x=pure x:=by intro _;rfl):
  PE X (.ListComp elt [⟨tg,iter,ifs,0⟩] scope pos) (z5r nt ix wi g tc te):=by
 intro pins s σ H Q I h
 rw [eval_ListComp]
 refine wpAny_comprehension_free (use:=none) rfl hs sc.clos sc.kind sc.names (thn (hi pins s σ H _ I h) fun v s1 h1=>thn h1 fun itv s2 h2=>?_)
 obtain ⟨it,fp,tn,J,H2,e,I2,T,st2,f2,q2⟩:=h2
 subst e
 refine Zs (RR:=fun acc C=>compPost (model X.prog X.w) X.A X.xe none (EP X pins σ Q) acc C) hc sc I2 T st2 f2 hg ht he q2 ?_
 intro D C s' H' m I' n' c1 c2 c3 c4 c5 q'
 exact ⟨m,n',fun h' hs'=>⟨.ref D,H',I'.turned (t':=s'.toks) (it:=C) (fun b o hb e=>(hs'.2 b hb).trans e) c2 c1 (.inr c3) c4 c5,rfl,q'⟩⟩
theorem z15 {elt iter tg:Expr} {ifs:List Expr} {N:List Str} {nt:Nat} {ix:List Nat} {y:Str} {i:Nat} {py spos:Pos} {scope:Scope} {cl:List (Str × Addr)} {pos:Pos} {wi:TI} {g:TG} {tc:TT} {te:TE} (hc:X.calm=true) (hN:X.N.Nodup) (hy:X.N[i]?=some y) (hl:Loc X.env.scope y) (sc:Zm X N nt ix scope cl) (hi:PI X tg iter wi)
  (hg:∀(s:Shared) (H:Hp) (fp:List Addr) (C:Addr),PG (qA X N scope cl s H fp C) tg g)
  (ht:∀(s:Shared) (H:Hp) (fp:List Addr) (C:Addr),PTs (qA X N scope cl s H fp C) ifs tc)
  (he:∀(s:Shared) (H:Hp) (fp:List Addr) (C:Addr),PE (qA X N scope cl s H fp C) elt te)
  (hsw:autoParam (swapsWith (.ListComp elt [⟨tg,iter,ifs,0⟩] scope pos) (some (.Name y py)) spos.line X.env=pure true) aR._auto_1) (hs:∀x,foldedSetIterable iter X.env x=pure x:=by intro _;rfl)
  (hf:X.fn y=true∨X.env.scope.names.lookup y=some .local:=by first | exact .inl rfl | exact .inr rfl | assumption):
  PS X (.Assign [.Name y py] (.ListComp elt [⟨tg,iter,ifs,0⟩] scope pos) spos) (z4d i (z5r nt ix wi g tc te)):=by
 intro pins s σ H D I h
 rw [exec_Assign_Name_used _ _ _ _ hsw]
 refine wpAny_bind (wpAny_standAt (wpAny_bind ?_))
 show wpAny _ X.A (do let _ ←comprehension (.ListComp elt [⟨tg,iter,ifs,0⟩] scope pos) scope X.env _ (newList []) false (eval iter X.env) (some (assign (.Name y py) X.env))) _ _ s
 refine wpAny_bind (wpAny_mono (wpAny_comprehension_free (use:=some (assign (.Name y py) X.env)) (Q:=fun _ s'=>SP X pins D .next s') (E:=X.xe) rfl hs sc.clos sc.kind sc.names
  (thn (hi pins s σ H _ I h) fun v s1 h1=>thn h1 fun itv s2 h2=>?_)) (fun _ s' hq=>wpAny_pure (wpAny_pure hq)) fun _ _ e=>e)
 obtain ⟨it,fp,tn,J,H2,e,I2,T,st2,f2,q2⟩:=h2
 subst e
 refine Zs (Q:=fun v H1=>D.nx (σ.set i (some v)) H1) (RR:=fun acc C=>compPost (model X.prog X.w) X.A X.xe (some (assign (.Name y py) X.env)) (fun _ s'=>SP X pins D .next s') acc C) hc sc I2 T st2 f2 hg ht he q2 ?_
 intro l C s' H' m I' n' c1 c2 c3 c4 c5 q'
 show wpAny _ X.A (assign (.Name y py) X.env (.ref l)) _ _ _
 refine wpAny_assign_Name (z09 I' hN hy hl (v:=.ref l) rfl (fun s'' I'' k=>?_) hf)
 obtain ⟨a,sb,ha⟩:=k
 have hne:C≠a:=by
  rcases ha with ha | ha
  ·rw [ha];exact c1
  ·exact fun z=>c4 _ _ ha z.symm
 refine ⟨m,n'.sameBut sb hne,fun h' hs'=>?_⟩
 exact ⟨_,H',I''.turned (t':=s''.toks) (it:=C) (fun b o hb e=>(hs'.2 b hb).trans e) c2 c1 (.inr c3) c4 c5,q'⟩
end
end L2
namespace L2
open PySem PySem.Spec PyProof.Rows
theorem Inv.recast {X:Cx} {pins:List (Addr × Obj)} {σ:St} {H:Hp} {s:Shared} {d:Addr} {u u':HO} (I:Inv X pins σ H s) (e:H d=some u) (nt:∀xs,u≠.tup xs) (nb:∀ps,u≠.tbl ps) (no:∀x,u≠.own x)
  (hfz:∀o v,X.H₀ d≠some (.frz o v)) (ok:qL X.prog X.w (upd H d u') s.heap d u'):Inv X pins σ (upd H d u') s:=by
 have nn:∀b,H b=none→upd H d u' b=none:=fun b h=>by
  rw [zf (fun z=>by rw [z,e] at h;cases h)];exact h
 refine { I with base:=⟨I.base.keep,I.base.slot,fun b o q n hx=>nn b (I.base.free b o q n hx),I.base.there,fun b xs q=>?_,fun b o v q=>?_,fun b ps q=>?_⟩,free:=nn _ I.free,freeC:=fun x c q=>nn _ (I.freeC x c q),pin:=fun p hp=>?_,hok:=fun b v q=>?_ }
 ·have:=I.base.tups b xs q
  rw [zf (fun z=>by rw [z,e] at this;exact nt xs (kD this))];exact this
 ·have:=I.base.frzs b o v q
  rw [zf (fun z=>hfz o v (by rw [←z];exact q))];exact this
 ·obtain ⟨m,h⟩:=I.base.tbls b ps q
  exact ⟨m,by rw [zf (fun z=>by rw [z,e] at h;exact nb _ (kD h))];exact h⟩
 ·obtain ⟨a,b,c⟩:=I.pin p hp
  exact ⟨a,nn _ b,c⟩
 ·by_cases hb:b=d
  ·subst hb;rw [zb] at q;cases q;exact ok
  ·rw [zf hb] at q
   refine (I.hok b v q).stay (fun _ _ _ z=>z) (fun c z=>?_) fun c xs z=>?_
   ·rw [zf (fun y=>by rw [y,e] at z;exact no _ (kD z))];exact z
   ·rw [zf (fun y=>by rw [y,e] at z;exact nt _ (kD z))];exact z
theorem Inv.nofrz {X:Cx} {pins:List (Addr × Obj)} {σ:St} {H:Hp} {s:Shared} {d:Addr} {u:HO} (I:Inv X pins σ H s) (e:H d=some u) (nf:∀o v,u≠.frz o v):∀o v,X.H₀ d≠some (.frz o v):=fun o v q=>by
 have:=I.base.frzs d o v q
 rw [e] at this
 exact nf o v (kD this)
theorem z3s {k:Key} {u:Value} (h:z0v k u=true):RelV (kV k) u:=by
 rcases qq h with ⟨i,t,rfl,rfl⟩ | ⟨x,t,rfl,rfl⟩
 ·exact ⟨t,rfl⟩
 ·exact ⟨t,rfl⟩
theorem KV.get {kvs:List (Key × V)} {vs:List (Key × Value)} (r:KV kvs vs):∀{i:Nat} {p:Key × V},kvs[i]?=some p→∃v,vs[i]?=some (p.1,v)∧RelV p.2 v:=by
 unfold KV at r
 induction r with
 | nil=>intro i p h;simp at h
 | @cons p q ps qs h t ih=>
  intro i p' hp
  cases i with
  | zero=>
   simp at hp
   subst hp
   exact ⟨q.2,by rw [h.1];rfl,h.2⟩
  | succ i=>
   obtain ⟨v,h1,h2⟩:=ih (by simpa using hp)
   exact ⟨v,by simpa using h1,h2⟩
noncomputable def Itd (a:Addr) (o:Obj) (kvs:List (Key × V)):It:=
 ⟨fun i H=>H a=some (.frz o (.dK kvs))∧i < kvs.length,fun i H x H'=>∃p k v,x=.ref p∧H p=none∧kvs[i]?=some (k,v)∧H'=upd H p (.tup [kV k,v]),fun i H=>H a=some (.frz o (.dK kvs))∧kvs.length≤i⟩
theorem z3M:entryFor table "dict_itemiterator.__iter__"=some Builtin.«dict_keyiterator.__iter__»:=
 entryFor_alias (id':="dict_keyiterator.__iter__") (by rw [fastTable_eq_tree];kernel_rfl) (by kernel_rfl) (by kernel_rfl) (by rw [fastTable_eq_tree];kernel_rfl)
theorem jX {prog:Program} {w:World} {A:Around} {E:Value→Shared→Prop} {s:Shared} {it d:Addr} {i n ep:Nat} {ok ov:Value} {Q:Value→Shared→Prop} (he:IsItemIter s.heap it d i n ep ok ov) (h:Q (.ref it) s):
  wpAny (model prog w) A (pyIter (.ref it)) Q E s:=by
 have hT:s.TypeIs (.ref it) "dict_itemiterator":=⟨_,he,rfl⟩
 refine wpAny_pyIter_slot hT F.slot_dict_itemiterator_iter (wpAny_call_entry F.slot_dict_itemiterator_iter hT z3M ?_ (F.args_dict_itemiterator_iter_1 _))
 show wpAny _ _ (ret (.ref it)) _ _ s
 exact wpAny_pure ⟨_,rfl,"dict_itemiterator",_,hT,F.slot_dict_itemiterator_next.lookup,h⟩
theorem z25 {P:Program} {w:World} {K:ky} {elts:List Expr} {x1} {pos:Pos} (a it:Addr) (o:Obj) (kvs:List (Key × V)):
  Turn P w K (.Tuple elts x1 pos) (Itd a o kvs) [it] it (fun i h=>∃es ep ok ov,o.data=.dict es ep∧IsItemIter h it a i kvs.length ep ok ov) where
 mem:=by simp
 obj:=fun i h st b hb=>by
  have z:b=it:=by simpa using hb
  subst z
  obtain ⟨es,ep,ok,ov,_,q⟩:=st
  exact ⟨_,q,fun v y=>by cases y⟩
 keep:=fun i h h' st k=>let ⟨es,ep,ok,ov,d,q⟩:=st;⟨es,ep,ok,ov,d,k it (by simp) _ q⟩
 item:=by
  intro X hP hw hK hc i pins s σ H E I hf st hg
  subst hP hw hK
  obtain ⟨hq,hi⟩:=hg
  obtain ⟨es,ep,ok,ov,hd,hit⟩:=st
  obtain ⟨ho,hz,hsy,vs,rel,ob,es',ep',hob,hex,hdat,r3⟩:=(show qL X.prog X.w H s.heap a (.frz o (.dK kvs)) from I.hok a _ hq)
  rw [ho] at hob
  cases hob
  rw [hd] at hdat
  cases hdat
  have hm:s.heap.DictAt (qd X.prog X.w) a vs ep:=⟨o,es,ho,hex,hd,r3⟩
  have hlen:kvs.length=vs.length:=Paired.length rel
  obtain ⟨p,hp⟩:∃p,kvs[i]?=some p:=⟨kvs[i],kM hi⟩
  obtain ⟨v,hv,rv⟩:=rel.get hp
  have fi:=hf it (by simp)
  rw [hlen] at hit
  refine wpAny_pyNext_items_item hit hm hv fun key h' hkey heo ht hsz hk=>⟨_,rfl,?_⟩
  have rk:RelV (kV p.1) key:=z3s hkey
  have new:qL X.prog X.w (upd H s.heap.objs.size (.tup [kV p.1,p.2])) h' s.heap.objs.size (.tup [kV p.1,p.2]):=⟨by show 2≤sizeLine;decide,[key,v],.cons rk (.cons rv .nil),_,ht,rfl,_,rfl⟩
  have I1:Inv X pins σ (upd H s.heap.objs.size (.tup [kV p.1,p.2])) { s with heap:=h',toks:=s.toks }:=I.turned2 (e:=it) (it:=it) (t':=s.toks) (fun b o hb _ e=>hk b o hb e) (fun b hb=>by
   have z:b=it:=by simpa using hb
   subst z;exact ⟨_,heo⟩) fi fi new
  have ne1:it≠s.heap.objs.size:=Nat.ne_of_lt (Heap.lt_size hit)
  refine wpAny_letOwnedTupleGo_items (s:={ s with heap:=h' }) heo fun h2 he2 hs2=>?_
  refine ⟨.ref s.heap.objs.size,_,I1.turned (t':=s.toks) (it:=it) (fun b o hb q=>(hs2.2 b hb).trans q) (by rw [zf ne1];exact fi.1) fi.2.1 fi.2.2.2.1 fi.2.2.2.2.1 fi.2.2.2.2.2,rfl,⟨_,p.1,p.2,rfl,I.fresh,hp,rfl⟩,⟨es,ep,key,v,hd,by rw [hlen];exact he2⟩,fun b hb=>?_⟩
  have z:b=it:=by simpa using hb
  subst z;rw [zf ne1];exact fi.1
 done:=by
  intro X hP hw hK hc i pins s σ H E I hf st hg
  subst hP hw hK
  obtain ⟨hq,hi⟩:=hg
  obtain ⟨es,ep,ok,ov,hd,hit⟩:=st
  obtain ⟨ho,hz,hsy,vs,rel,ob,es',ep',hob,hex,hdat,r3⟩:=(show qL X.prog X.w H s.heap a (.frz o (.dK kvs)) from I.hok a _ hq)
  rw [ho] at hob
  cases hob
  rw [hd] at hdat
  cases hdat
  have hm:s.heap.DictAt (qd X.prog X.w) a vs ep:=⟨o,es,ho,hex,hd,r3⟩
  have hlen:kvs.length=vs.length:=Paired.length rel
  rw [hlen] at hit hi
  obtain ⟨f0,f1,f2,f3,f4,f5⟩:=hf it (by simp)
  exact wpAny_pyNext_items_end (I.ok.hd hc) hit hm (by rw [List.getElem?_eq_none_iff];exact hi) fun h' eb=>⟨rfl,I.turned (t':=s.toks) (fun b o hb e=>eb b o hb e) f0 f1 f3 f4 f5⟩
 self:=fun _ _ _ _ _ st h=>let ⟨es,ep,ok,ov,_,q⟩:=st;jX q h
section
variable {X:Cx}
def z7z (nt:Nat) (ix:List Nat) (td:TE) (g:TG) (tc:TT) (te:TE):TE:=fun σ H Q=>td σ H fun x H1=>∃a kvs,x=.ref a∧H1 a=some (.dK kvs)∧∀o l,H1 l=none→∃W:Nat→Nat→List V→St→Hp→Prop,(∃m,W 0 m [] (Qe nt ix σ) (upd (upd H1 a (.frz o (.dK kvs))) l (.lst [])))∧∀i m ys σ' H2,W i m ys σ' H2→
 H2 a=some (.frz o (.dK kvs))∧(kvs.length≤i→Q (.ref l) (upd H2 a (.dK kvs)))∧(∀p k v,kvs[i]?=some (k,v)→H2 p=none→g (.ref p) σ' (upd H2 p (.tup [kV k,v])) fun σ2 H4=>tc σ2 H4 fun b H5=>if b=true then te σ2 H5 fun v H6=>H6 l=some (.lst ys)∧ys.length < sizeLine∧∃m',m' < m∧W (i+1) m' (ys++[v]) σ2 (upd H6 l (.lst (ys++[v])))
  else ∃m',m' < m∧W (i+1) m' ys σ2 H5)
theorem z1G {elt o:Expr} {elts:List Expr} {x1} {tp apos cpos:Pos} {ifs:List Expr} {N:List Str} {nt:Nat} {ix:List Nat} {scope:Scope} {cl:List (Str × Addr)} {pos:Pos} {td:TE} {g:TG} {tc:TT} {te:TE} (hc:X.calm=true) (sc:Zm X N nt ix scope cl) (ho:PE X o td)
  (hg:∀(s:Shared) (H:Hp) (fp:List Addr) (C:Addr),PG (qA X N scope cl s H fp C) (.Tuple elts x1 tp) g)
  (ht:∀(s:Shared) (H:Hp) (fp:List Addr) (C:Addr),PTs (qA X N scope cl s H fp C) ifs tc)
  (he:∀(s:Shared) (H:Hp) (fp:List Addr) (C:Addr),PE (qA X N scope cl s H fp C) elt te) (hs:∀x,foldedSetIterable (.Call (.Attribute o "items" apos) [] [] cpos) X.env x=pure x:=by intro _;rfl)
  (hbase:autoParam (attributeBase o "items" X.env (eval o X.env)=eval o X.env) aR._auto_1) (hline:autoParam ((apos.endLine == cpos.line)=true) aR._auto_1):
  PE X (.ListComp elt [⟨.Tuple elts x1 tp,.Call (.Attribute o "items" apos) [] [] cpos,ifs,0⟩] scope pos) (z7z nt ix td g tc te):=by
 intro pins s σ H Q I h
 rw [eval_ListComp]
 refine wpAny_comprehension_free (use:=none) rfl hs sc.clos sc.kind sc.names ?_
 refine wpAny_Call_method0_late hbase hline (thn (ho pins s σ H _ I h) fun v s1 zz=>?_)
 obtain ⟨x,H1,I1,r1,a,kvs,ex,ha,q1⟩:=zz
 subst ex
 cases r1
 obtain ⟨hz,hsy,vs,rel,dd⟩:=z2A I1.hok ha
 obtain ⟨ob,es,ep,hob,hex,hdat,r3⟩:=id dd
 have hlen:kvs.length=vs.length:=Paired.length rel
 refine ⟨"dict",_,F.plainAttrs_dict,F.slot_dict_items,F.type_dict_items,⟨ob,hob,hex.1⟩,fun b z=>(by cases z;exact ⟨ob,hob,hex.2.1⟩),Calls.callWith_builtin rfl (PySem.evalArgs_none ?_)⟩
 refine call_meetsIn F.slot_dict_items dd.typeIs F.entry_dict_items (F.args_dict_items_1 _) (meets_dict_items (qd X.prog X.w) a hsy) ⟨⟨vs,dd⟩,?_⟩
 have k2:∀b o,s1.heap.get? b=some o→(s1.heap.push { cls:=.type "dict_items",data:=.fields #[.ref a] }).get? b=some o:=fun b o e=>Heap.get?_push_of_some _ e
 have I2:Inv X pins σ H1 { s1 with heap:=s1.heap.push { cls:=.type "dict_items",data:=.fields #[.ref a] } }:=I1.kept (t':=s1.toks) k2
 have hm:(s1.heap.push { cls:=.type "dict_items",data:=.fields #[.ref a] }).DictAt (qd X.prog X.w) a vs ep:=⟨ob,es,k2 _ _ hob,hex,hdat,r3⟩
 generalize hs2:({ s1 with heap:=s1.heap.push { cls:=.type "dict_items",data:=.fields #[.ref a] } }:Shared)=s2 at *
 have hm2:s2.heap.DictAt (qd X.prog X.w) a vs ep:=by rw [←hs2];exact hm
 have hview:s2.heap.IsItemsView s1.heap.objs.size a:=⟨_,by rw [←hs2];exact Heap.get?_push_size _ rfl,rfl,rfl⟩
 refine wpAny_pyIter_items hview hm2 ?_
 have k3:∀b o,s2.heap.get? b=some o→(s2.heap.push { cls:=.type "dict_itemiterator",data:=.fields #[.none,.bool false,.ref a,.int 0 0,.int vs.length 0,.int ep 0,.none,.none] }).get? b=some o:=fun b o e=>Heap.get?_push_of_some _ e
 have I3:Inv X pins σ H1 { s2 with heap:=s2.heap.push { cls:=.type "dict_itemiterator",data:=.fields #[.none,.bool false,.ref a,.int 0 0,.int vs.length 0,.int ep 0,.none,.none] } }:=I2.kept (t':=s2.toks) k3
 have hob3:(s2.heap.push { cls:=.type "dict_itemiterator",data:=.fields #[.none,.bool false,.ref a,.int 0 0,.int vs.length 0,.int ep 0,.none,.none] }).get? a=some ob:=k3 _ _ (by rw [←hs2];exact k2 _ _ hob)
 have nf:=I3.nofrz ha (fun _ _=>nofun)
 have I4:=I3.recast (u':=.frz ob (.dK kvs)) ha (fun _=>nofun) (fun _=>nofun) (fun _=>nofun) nf ⟨hob3,hz,hsy,vs,rel,ob,es,ep,hob3,hex,hdat,r3⟩
 have itn:H1 s2.heap.objs.size=none:=I2.fresh
 have nea:s2.heap.objs.size≠a:=(ze ha itn).symm
 refine Zs (Q:=fun v H'=>H' a=some (.frz ob (.dK kvs))∧Q v (upd H' a (.dK kvs))) (RR:=fun acc C=>compPost (model X.prog X.w) X.A X.xe none (EP X pins σ Q) acc C) hc sc I4 (z25 a s2.heap.objs.size ob kvs) ⟨es,ep,.none,.none,hdat,by rw [hlen];exact Heap.get?_push_size _ rfl⟩ (fun b hb=>?_) hg ht he (fun l hl=>?_) ?_
 ·have z:b=s2.heap.objs.size:=by simpa using hb
  subst z
  exact I2.fpOk (ke _) (by rw [zf nea];exact itn)
 ·have hl1:H1 l=none:=by
   cases q:H1 l with
   | none=>rfl
   | some u=>
    by_cases z:l=a
    ·subst z;rw [zb] at hl;cases hl
    ·rw [zf z,q] at hl;cases hl
  obtain ⟨W,w0,turn⟩:=q1 ob l hl1
  refine ⟨W,w0,fun i m ys σ' H2 hW=>?_⟩
  obtain ⟨t1,t2,t3⟩:=turn i m ys σ' H2 hW
  by_cases hlt:i < kvs.length
  ·refine .inr ⟨⟨t1,hlt⟩,fun x H3 y=>?_⟩
   obtain ⟨p,k,v,rfl,hp,hkv,rfl⟩:=y
   exact t3 p k v hkv hp
  ·exact .inl ⟨⟨t1,by lia⟩,t1,t2 (by lia)⟩
 ·intro D C s' H' m I' n' c1 c2 c3 c4 c5 q'
  obtain ⟨q5,q6⟩:=q'
  refine ⟨m,n',fun h' hs'=>?_⟩
  have I5:=I'.turned (t':=s'.toks) (it:=C) (h':=h') (fun b o hb e=>(hs'.2 b hb).trans e) c2 c1 (.inr c3) c4 c5
  obtain ⟨hob5,ok5⟩:=(show qL X.prog X.w H' h' a (.frz ob (.dK kvs)) from I5.hok a _ q5)
  obtain ⟨z1,z2,vs',rel',dd'⟩:=(show qL X.prog X.w H' h' a (.dK kvs) from ok5)
  exact ⟨.ref D,_,I5.recast (u':=.dK kvs) q5 (fun _=>nofun) (fun _=>nofun) (fun _=>nofun) nf ⟨z1,z2,vs',rel',dd'⟩,rfl,q6⟩
theorem z48 {bs:List Bool} {us:List Value} (r:Vals (bs.map V.bl) us):us=bs.map Value.bool:=by
 induction bs generalizing us with
 | nil=>cases r;rfl
 | cons b bs ih=>
  cases r with
  | cons x y=>cases x;rw [ih y];rfl
theorem z00 (hc:X.calm=true):ZY X (.builtin "all") (fun xs H Q=>∃(p:Addr) (bs:List Bool),xs=[.ref p]∧SqL X.K H p (bs.map V.bl)∧Q (.bl (bs.all id)) H):=by
 intro pins s σ H xs us Q I r h
 obtain ⟨p,bs,rfl,hS,q⟩:=h
 obtain ⟨u,rfl,ru⟩:=Jo r
 cases ru
 obtain ⟨its,rv,pl,hz⟩:=I.list hS
 obtain rfl:=z48 rv
 have hh:X.A.in1.handled=none:=I.ok.hd hc
 have hne:p≠s.heap.objs.size:=Nat.ne_of_lt (by obtain ⟨o,_,e,_⟩:=pl;exact Heap.lt_size e)
 refine call_all_walk (wpAny_pyIter_list pl.isList ?_)
 refine ⟨s.heap.objs.size,_,_,_,_,_,fun i=>(bs[i]?).getD true,rfl,Walks.list hh s.heap.objs.size p hne (bs.map Value.bool).toArray,⟨⟨_,Heap.get?_push_size _ rfl,rfl,rfl⟩,pl.isList.push _⟩,fun i v s' Q' E' hv hq=>?_,fun h' tk hk=>?_⟩
 ·have hv:(bs.map Value.bool).toArray[i]?=some v:=hv
  rw [List.getElem?_toArray,List.getElem?_map] at hv
  cases hb:bs[i]? with
  | none=>rw [hb] at hv;cases hv
  | some b=>
   rw [hb] at hv
   cases hv
   have hq:Q' ((bs[i]?).getD true) s':=hq
   rw [hb] at hq
   exact wpAny_truthy_bool hq
 ·have e:(List.range (bs.map Value.bool).toArray.size).all (fun i=>(bs[i]?).getD true)=bs.all id:=by
   rw [kG,kj,Bool.eq_iff_iff,List.all_eq_true,List.all_eq_true]
   constructor
   ·intro h b hb
    obtain ⟨i,hi⟩:=List.getElem?_of_mem hb
    have:=h i (List.mem_range.mpr (kf.mp hi).1)
    rw [hi] at this
    exact this
   ·intro h i hi
    rw [kM (List.mem_range.mp hi)]
    exact h _ (List.getElem_mem _)
  rw [e]
  refine ⟨.bl _,H,I.kept (t':=tk) fun b o e=>hk b o (fun z=>?_) (Heap.get?_push_of_some _ e),rfl,q⟩
  have:b=s.heap.objs.size:=by simpa using z
  rw [this] at e
  exact absurd (Heap.lt_size e) (Nat.lt_irrefl _)
theorem JZ:ZY X (.type "bool") (fun xs H Q=>∃x,xs=[x]∧((x=.non∧Q (.bl false) H)∨(∃b,x=.bl b∧Q (.bl b) H)∨(∃i,x=.int i∧Q (.bl (i != 0)) H)∨∃z,x=.str z∧z.length≤sizeLine∧Q (.bl ((z.length:Int) != 0)) H)):=by
 intro pins s σ H xs us Q I r h
 obtain ⟨x,rfl,h⟩:=h
 obtain ⟨u,rfl,ru⟩:=Jo r
 rcases h with ⟨rfl,q⟩ | ⟨b,rfl,q⟩ | ⟨i,rfl,q⟩ | ⟨z,rfl,hz,q⟩
 ·cases ru;exact call_bool_none ⟨.bl false,H,I,rfl,q⟩
 ·cases ru;exact call_bool_bool ⟨.bl b,H,I,rfl,q⟩
 ·obtain ⟨t,rfl⟩:=ru;exact call_bool_int ⟨.bl _,H,I,rfl,q⟩
 ·obtain ⟨t,rfl⟩:=ru
  have:=QL
  exact call_bool_str (by lia) ⟨.bl _,H,I.tok _,rfl,q⟩
def z7u (tab:List (Str × V)) (ty tx:TE):TE:=fun σ H Q=>ty σ H fun y H1=>tx σ H1 fun z H2=>∃x,y=.str x∧Q ((tab.lookup x).getD z) H2
theorem Qt {nm:Str} {e f:Expr} {p apos cpos:Pos} {d:Addr} {tab:List (Str × V)} {ty tx:TE} (T:KTab X.w.params X.K d tab) (hg:Gl X nm) (hm:X.mg nm=some (.ref d)) (he:PE X e ty) (hf:PE X f tx) (m:M2 X (.Name nm p) "get" apos e f cpos) (hd:autoParam ((nm == ("__debug__":Str))=false) aR._auto_2):
  PE X (.Call (.Attribute (.Name nm p) "get" apos) [e,f] [] cpos) (z7u tab ty tx):=by
 intro pins s σ H Q I h
 refine wpAny_Call_method m.base m.few m.line PySem.F.plainAttrs_dict PySem.F.slot_dict_get PySem.F.type_dict_get (Q7 I hg hm ?_ hd)
 obtain ⟨es,n,hl,hk,hsy,hp⟩:=id T
 have ho:=I.kIn d _ hl
 refine ⟨⟨_,ho,rfl⟩,fun b z=>(by cases z;exact ⟨_,ho,rfl⟩),?_⟩
 rw [m.trees]
 refine Calls.callWith_builtin rfl (Calls.evalArgs_plain (Calls.spliced_cons (thn (he pins s σ H _ I h) fun iv s2 ⟨y,H2,I2,ry,q2⟩=>
  Calls.spliced_cons (thn (hf pins s2 σ H2 _ I2 q2) fun fv s3 ⟨z,H3,I3,rz,x,ex,q3⟩=>Calls.spliced_nil ?_))))
 subst ex
 obtain ⟨t,rfl⟩:=ry
 obtain ⟨fm,mo,_,hf⟩:=JH (prog:=X.prog) (w:=X.w) rfl T I3.kIn
 refine call_meetsIn PySem.F.slot_dict_get mo.typeIs PySem.F.entry_dict_get (PySem.F.args_dict_get_3 _ _ _) (meets_dict_get_default (strKind X.prog X.w) d (strKind_is X.prog X.w x t) hsy fv) ⟨_,mo,_,H3,I3.tok _,(hf x).getD rz,q3⟩
theorem JY {C:Addr} {k:Nat} {f:Addr} {fd:FuncData} {sp:Sp} (hs:PySem.W.findIn X.K (.ref C) "__len__"=some (some (.ref f))) (hfn:PySem.W.isFn X.K (.ref f)=true) (F:FnOk X.prog X.w X.K X.mg X.base CX0 k f fd ["self"] sp) (hr:Room k X.A.in1) (hb:Zd X.K fd ["self"] []):
  ZY X (.builtin "len") (fun xs H Q=>∃a dx fs,xs=[.ref a]∧H a=some (.ins C dx fs)∧sp [.ref a] H (fun v H1=>∃n:Nat,v=.int n∧n≤1000000∧Q (.int n) H1) E0):=by
 intro pins s σ H xs us Q I r h
 obtain ⟨a,dx,fs,rfl,ha,q⟩:=h
 obtain ⟨u,rfl,ru⟩:=Jo r
 cases ru
 obtain ⟨m,FF⟩:=I.fr
 obtain ⟨_,_,_,e,mA,⟨od,es,ep,e2,_⟩,_⟩:=(show qL X.prog X.w H s.heap a (.ins C dx fs) from I.hok a _ ha)
 refine PySem.W.len_K FF I.ok.mod.kin (ox:=PySem.W.instObj C dx) (od:=some od) ⟨e,rfl,rfl,e2⟩ hs hfn ?_
 refine wpAny_call (codeAny_mono (F.run X.A.in1 X.stack s H ⟨[.ref a],[]⟩ [.ref a] [.ref a] _ E0 hr I.env0.in1 (hb s [.ref a] I.kIn rfl) (.cons rfl .nil) q) fun r s' hq=>?_)
 cases r with
 | error e=>exact (show False from hq).elim
 | ok fl=>
  cases fl with
  | ret u=>
   obtain ⟨v,H',I',rv,n,rfl,hn,q'⟩:=I.after hq
   obtain ⟨t,rfl⟩:=rv
   exact ⟨⟨by lia,by lia⟩,.int n,H',I'.tok _,⟨_,rfl⟩,q'⟩
  | next=>exact False.elim hq
  | brk=>exact False.elim hq
  | cont=>exact False.elim hq
end
end L2
namespace L2
open PySem PySem.Spec PyProof.Rows
section
variable {X:Cx}
theorem PSs.imp {st:List Stmt} {t t':TS} (h:PSs X st t) (hi:∀D σ H,t' D σ H→t D σ H):PSs X st t':=fun pins s σ H D I q=>h pins s σ H D I (hi D σ H q)
noncomputable def qM:V→PyData
 | .int i=>.int i
 | .str x=>.str x
 | .bl b=>.bool b
 | _=>.none
theorem Je {h:Heap} {x:V} {u:Value} (f:jL x=true) (r:RelV x u):Reads h u (qM x) []:=by
 cases x with
 | non=>cases r;exact .none
 | bl b=>cases r;exact .bool b
 | int i=>obtain ⟨t,rfl⟩:=r;exact .int i t
 | str z=>obtain ⟨t,rfl⟩:=r;exact .str z t
 | _=>cases f
theorem QQ (x:V):(qM x).hasDict=false∧(qM x).depth=0:=by
 cases x <;> exact ⟨by simp only [qM,PyData.hasDict],by simp only [qM,PyData.depth]⟩
theorem Z7:∀xs:List V,PyData.hasDictAll (xs.map qM)=false∧PyData.depthAll (xs.map qM)=0
 | []=>⟨by simp only [List.map_nil,PyData.hasDictAll],by simp only [List.map_nil,PyData.depthAll]⟩
 | x :: xs=>by
  obtain ⟨a,b⟩:=QQ x
  obtain ⟨c,d⟩:=Z7 xs
  exact ⟨by simp only [kX,PyData.hasDictAll,a,c,Bool.or_self],by simp only [kX,PyData.depthAll,b,d];rfl⟩
noncomputable def resD (e sd:List V) (n:Int):PyData:=.tuple [.tuple (e.map qM),.list (sd.map qM),.int n]
end
end L2
namespace L2
open PySem PySem.Spec PyProof.Rows
mutual
inductive RdV (K:ky) (H:Hp):V→PyData→Prop where
 | flat {x:V} (f:jL x=true):RdV K H x (qM x)
 | tup {a:Addr} {xs:List V} {ds:List PyData} (h:SqT K H a xs) (r:RdVs K H xs ds):RdV K H (.ref a) (.tuple ds)
 | lst {a:Addr} {xs:List V} {ds:List PyData} (h:SqL K H a xs) (r:RdVs K H xs ds):RdV K H (.ref a) (.list ds)
inductive RdVs (K:ky) (H:Hp):List V→List PyData→Prop where
 | nil:RdVs K H [] []
 | cons {x:V} {d:PyData} {xs:List V} {ds:List PyData} (h:RdV K H x d) (t:RdVs K H xs ds):RdVs K H (x :: xs) (d :: ds)
end
section
variable {X:Cx} {pins:List (Addr × Obj)} {σ:St} {H:Hp} {s:Shared}
mutual
theorem Ju (I:Inv X pins σ H s) {x:V} {u:Value} {d:PyData} (r:RelV x u) (h:RdV X.K H x d):∃as,Reads s.heap u d as:=by
 cases h with
 | flat f=>exact ⟨_,Je f r⟩
 | tup h t=>
  cases r
  obtain ⟨its,rv,⟨o,ho,hc,m,hd⟩,_⟩:=I.tuple h
  obtain ⟨as,q⟩:=Qy I rv t
  exact ⟨_,.tuple ho hc hd q⟩
 | lst h t=>
  cases r
  obtain ⟨its,rv,⟨o,m,ho,hc,_,hd⟩,_⟩:=I.list h
  obtain ⟨as,q⟩:=Qy I rv t
  exact ⟨_,.list ho hc hd q⟩
theorem Qy (I:Inv X pins σ H s) {xs:List V} {us:List Value} {ds:List PyData} (r:Vals xs us) (h:RdVs X.K H xs ds):∃as,ReadsAll s.heap us ds as:=by
 cases h with
 | nil=>cases r;exact ⟨_,.nil⟩
 | cons h t=>
  cases r with
  | cons r1 r2=>
   obtain ⟨as,q1⟩:=Ju I r1 h
   obtain ⟨bs,q2⟩:=Qy I r2 t
   exact ⟨_,.cons q1 q2⟩
end
end
noncomputable def z5E (d:PyData):Bool:=d.showable&& !d.hasDict&&decide (d.depth≤5)&&decide (d.shown.length≤2000)
def z7r (K:ky) (t:TE):TE:=fun σ H Q=>t σ H fun x H1=>∃a d,x=.ref a∧RdV K H1 x d∧z5E d=true∧Q (.str d.shown) H1
theorem z8U {X:Cx} {value:Expr} {pos:Pos} {t:TE} (hr:Room 1 X.A) (h:PE X value t):PE X (.FormattedValue value (-1) none pos) (z7r X.K t):=by
 intro pins s σ H Q I hq
 refine wpAny_FormattedValue_plain (thn (h pins s σ H _ I hq) fun v s1 h1=>?_)
 have hg:=hr.gd
 have hu:=hr.un
 obtain ⟨x,H1,I1,r1,a,d,rfl,hR,hk,q⟩:=h1
 cases r1
 obtain ⟨as,rr⟩:=Ju I1 (x:=.ref a) (u:=.ref a) rfl hR
 unfold z5E at hk
 simp only [yf,yg,Bool.not_eq_true'] at hk
 obtain ⟨⟨⟨k1,k2⟩,k3⟩,k4⟩:=hk
 refine formatField_of_reads rr k1 (PyData.noDict_hsm k2) hg (by lia) (fun _ _ e=>e) (fun h' u tk hk=>?_) ?_
 ·exact ⟨.str _,H1,I1.kept hk,⟨_,rfl⟩,q⟩
 ·rw [sizeLine_eq]
  lia
end L2
namespace L2
open PySem PySem.Spec PyProof.Rows
section
variable {X:Cx}
end
structure z49 (d:PyData):Prop where
 sh:d.showable=true
 nd:d.hasDict=false
 dp:d.depth≤5
 ln:d.shown.length≤100000
theorem Qx {K:ky} {H:Hp}:∀{xs:List V},xs.all jL=true→RdVs K H xs (xs.map qM)
 | [],_=>.nil
 | x :: xs,h=>by
  rw [List.all_cons,yf] at h
  exact .cons (.flat h.1) (Qx h.2)
def Zx (x:V):Prop:=jL x=true∧(qM x).showable=true∧(qM x).shown.length≤60
theorem Za:∀{xs:List V},(∀x∈xs,Zx x)→xs.all jL=true∧PyData.showableAll (xs.map qM)=true∧((PyData.shownAll (xs.map qM)).map (fun t=>t.length)).sum≤60 * xs.length∧(PyData.shownAll (xs.map qM)).length=xs.length
 | [],_=>⟨rfl,by simp only [List.map_nil,PyData.showableAll],by simp only [List.map_nil,PyData.shownAll];decide,by simp only [List.map_nil,PyData.shownAll];rfl⟩
 | x :: xs,h=>by
  obtain ⟨a,b,c,d⟩:=Za (xs:=xs) fun y hy=>h y (kS _ hy)
  obtain ⟨e,f,g⟩:=h x (kR ..)
  refine ⟨by rw [List.all_cons,e,a];rfl,by simp only [kX,PyData.showableAll,f,b,Bool.and_self],?_,?_⟩
  ·simp only [kX,PyData.shownAll,List.sum_cons,kQ]
   lia
  ·simp only [kX,PyData.shownAll,kQ]
   lia
theorem z4g {e sd:List V} {n:Int} (h1:∀x∈e,Zx x) (h2:∀x∈sd,Zx x) (hl:e.length≤10) (hl2:sd.length≤1000) (hn:Zx (.int n)):z49 (resD e sd n):=by
 obtain ⟨a,b,c,d⟩:=Za h1
 obtain ⟨a2,b2,c2,d2⟩:=Za h2
 obtain ⟨e1,f1⟩:=Z7 e
 obtain ⟨e2,f2⟩:=Z7 sd
 obtain ⟨_,g,g2⟩:=hn
 have g:(PyData.int n).showable=true:=g
 have g2:(PyData.int n).shown.length≤60:=g2
 unfold resD
 refine ⟨?_,?_,?_,?_⟩
 ·simp only [PyData.showable,PyData.showableAll,b,b2,Bool.and_self,Bool.true_and,Bool.and_true] at g ⊢
  exact g
 ·simp only [PyData.hasDict,PyData.hasDictAll,e1,e2,Bool.or_self]
 ·simp only [PyData.depth,PyData.depthAll,f1,f2]
  lia
 ·have l1:=tupleText_len_le (PyData.shownAll (e.map qM))
  have l2:=listText_len_le (PyData.shownAll (sd.map qM))
  have l3:=tupleText_len_le [tupleText (PyData.shownAll (e.map qM)),listText (PyData.shownAll (sd.map qM)),(PyData.int n).shown]
  simp only [PyData.shown,PyData.shownAll]
  simp only [kX,List.map_nil,List.sum_cons,List.sum_nil,kQ,List.length_nil,PyData.shown] at l3 g2
  lia
end L2
theorem zU0 {C:List PySem.Value→Prop} (h:C []):∀us:List PySem.Value,us.length=0→C us:=by
 intro us hl
 cases us with
 | nil=>exact h
 | cons a t=>exact absurd hl (Nat.succ_ne_zero _)
theorem zU1 {C:List PySem.Value→Prop} (h:∀a,C [a]):∀us:List PySem.Value,us.length=1→C us:=by
 intro us hl
 cases us with
 | nil=>exact absurd hl.symm (Nat.succ_ne_zero _)
 | cons a t=>exact zU0 (C:=fun t=>C (a :: t)) (h a) t (Nat.succ.inj hl)
theorem zU2 {C:List PySem.Value→Prop} (h:∀a b,C [a,b]):∀us:List PySem.Value,us.length=2→C us:=by
 intro us hl
 cases us with
 | nil=>exact absurd hl.symm (Nat.succ_ne_zero _)
 | cons a t=>exact zU1 (C:=fun t=>C (a :: t)) (h a) t (Nat.succ.inj hl)
theorem zU3 {C:List PySem.Value→Prop} (h:∀a b c,C [a,b,c]):∀us:List PySem.Value,us.length=3→C us:=by
 intro us hl
 cases us with
 | nil=>exact absurd hl.symm (Nat.succ_ne_zero _)
 | cons a t=>exact zU2 (C:=fun t=>C (a :: t)) (h a) t (Nat.succ.inj hl)
theorem zU4 {C:List PySem.Value→Prop} (h:∀a b c d,C [a,b,c,d]):∀us:List PySem.Value,us.length=4→C us:=by
 intro us hl
 cases us with
 | nil=>exact absurd hl.symm (Nat.succ_ne_zero _)
 | cons a t=>exact zU3 (C:=fun t=>C (a :: t)) (h a) t (Nat.succ.inj hl)
theorem zU5 {C:List PySem.Value→Prop} (h:∀a b c d e,C [a,b,c,d,e]):∀us:List PySem.Value,us.length=5→C us:=by
 intro us hl
 cases us with
 | nil=>exact absurd hl.symm (Nat.succ_ne_zero _)
 | cons a t=>exact zU4 (C:=fun t=>C (a :: t)) (h a) t (Nat.succ.inj hl)
namespace My
open PySem PySem.Spec PyProof.Rows L2
variable {P:Program} {w:World} {K:ky} {mg:Str→Option Value} {base:Heap}
theorem fsM {N P:List Str} {sc:Scope} (a:autoParam (sc.kind=.function) aR._auto_1) (b:autoParam (sc.isCoroutine=false) aR._auto_1) (c:autoParam (sc.isGenerator=false) aR._auto_1) (d:N.Nodup:=by trivial) (e:autoParam (N.take P.length=P) aR._auto_1)
  (f:∀x∈P,sc.names.lookup x=some .local∨sc.names.lookup x=some .cell:=by trivial) (g:∀y∈sc.names,y.2≠.free:=by trivial):zj N P sc:=⟨a,b,c,d,e,f,g⟩
theorem qO {X:Cx} {o e:Expr} {es:List Expr} {to:TE} {t:TA} {apos cpos:Pos} (ho:PE X o to) (ha:PA X (e :: es) t) (hbase:autoParam (attributeBase o "append" X.env (eval o X.env)=eval o X.env) aR._auto_1)
  (hfew:autoParam (((backTo cpos (starEach (e :: es) X.env)).all (fun x=> !x.1)&&(backToKw cpos (keywordEach [] X.env)).all (fun x=>x.1.isSome)&&decide ((e :: es).length+([]:List Keyword).length+(if ([]:List Keyword).isEmpty then 0 else 1) < 30))=true) aR._auto_1)
  (hline:autoParam ((apos.endLine == cpos.line)=true) aR._auto_1) (hs:autoParam (starEach (e :: es) X.env=(false,eval e X.env) :: starEach es X.env) aR._auto_1) (hplain:autoParam ((backTo cpos (starEach es X.env)).any (·.1)=false) aR._auto_1):PE X (.Call (.Attribute o "append" apos) (e :: es) [] cpos) (tBM X.K "list" z13 to t):=z80 PySem.F.plainAttrs_list PySem.F.slot_list_append PySem.F.type_list_append z3l ho ha hbase hfew hline hs hplain
theorem qF {X:Cx} {o:Expr} {to:TE} {apos cpos:Pos} (ho:PE X o to) (hbase:autoParam (attributeBase o "pop" X.env (eval o X.env)=eval o X.env) aR._auto_1) (hline:autoParam ((apos.endLine == cpos.line)=true) aR._auto_1):PE X (.Call (.Attribute o "pop" apos) [] [] cpos) (tBM0 X.K "list" rPop to):=z1H PySem.F.plainAttrs_list PySem.F.slot_list_pop PySem.F.type_list_pop z87 ho hbase hline
noncomputable def top (i:Nat):Stmt:=PySem.Challenge.pw_codemill_k10_whole_runs.main.body.getD i (.Pass ⟨0,0,0,0⟩)
def FN (P:Program) (w:World) (K:ky) (mg:Str→Option Value) (base:Heap) (k:Nat) (name:Str) (ps:List Str) (sp:Sp):Prop:=
 ∃f fd,mg name=some (.ref f)∧PySem.W.keepIn K (.ref f)=true∧Zd K fd ps []∧FnOk P w K mg base CX0 k f fd ps sp
def zo (K:ky) (mg:Str→Option Value) (name:Str) (st:Stmt):Prop:=∃f fd,Fun K name name st f fd∧mg name=some (.ref f)
section
theorem FN.mono {j k:Nat} {name:Str} {ps:List Str} {sp:Sp} (F:FN P w K mg base j name ps sp) (h:j≤k):FN P w K mg base k name ps sp:=by
 obtain ⟨f,fd,a,b,c,d⟩:=F
 exact ⟨f,fd,a,b,c,d.mono h⟩
theorem FN.imp {k:Nat} {name:Str} {ps:List Str} {sp sp':Sp} (F:FN P w K mg base k name ps sp) (h:∀vs H Q E,sp' vs H Q E→sp vs H Q E):FN P w K mg base k name ps sp':=by
 obtain ⟨f,fd,a,b,c,d⟩:=F
 exact ⟨f,fd,a,b,c,d.imp h⟩
theorem FN.of {name:Str} {st:Stmt} {N ps:List Str} {sp:Sp} {k:Nat} (D:zo K mg name st) (S:zj N ps (zd st))
  (hb:∀(kV doc pm:Value) (an:Option Addr) (cdv ct:Value) (us:List Value),us.length=ps.length→bindArgs (PySem.W.fnOf name name (qz st) (zN st) (zd st) .none kV doc pm an cdv ct) ⟨us,[]⟩=pure (ps.zip us))
  (len:∀vs H Q E,sp vs H Q E→vs.length=ps.length)
  (hbody:∀(f:Addr) (cdv:Value) (A:Around) (outer:List Env) (s:Shared) (H:Hp) (vs:List V) (Q:VK) (E:XK),Room k (A.deeper (envOfC name (zd st) s.heap.objs.size f cdv))→sp vs H Q E→
   ∃t,PSs (cxOf CX0 P w K mg base N name (zd st) f cdv A outer s H E).nox (zN st) t∧t { nx:=fun _ H'=>Q .non H',rt:=Q } (jO N vs) H):FN P w K mg base (k+1) name ps sp:=by
 obtain ⟨f,fd,F,m⟩:=D
 exact ⟨f,fd,m,F.kp,F.binds hb,F.ok S len (hbody f)⟩
theorem FN.o {name:Str} {st:Stmt} {N ps:List Str} {sp:Sp} {k:Nat} (D:zo K mg name st) (S:zj N ps (zd st))
  (hbody:∀(f:Addr) (cdv:Value) (A:Around) (outer:List Env) (s:Shared) (H:Hp) (vs:List V) (Q:VK) (E:XK),Room k (A.deeper (envOfC name (zd st) s.heap.objs.size f cdv))→sp vs H Q E→
   ∃t,PSs (cxOf CX0 P w K mg base N name (zd st) f cdv A outer s H E).nox (zN st) t∧t { nx:=fun _ H'=>Q .non H',rt:=Q } (jO N vs) H)
  (hb:∀(kV doc pm:Value) (an:Option Addr) (cdv ct:Value) (us:List Value),us.length=ps.length→bindArgs (PySem.W.fnOf name name (qz st) (zN st) (zd st) .none kV doc pm an cdv ct) ⟨us,[]⟩=pure (ps.zip us):=by (first | exact fun _ _ _ _ _ _=>zU1 fun _=>rfl | exact fun _ _ _ _ _ _=>zU2 fun _ _=>rfl | exact fun _ _ _ _ _ _=>zU3 fun _ _ _=>rfl | exact fun _ _ _ _ _ _=>zU4 fun _ _ _ _=>rfl | exact fun _ _ _ _ _ _=>zU5 fun _ _ _ _ _=>rfl))
  (len:∀vs H Q E,sp vs H Q E→vs.length=ps.length:=by (intro vs H Q E h;repeat (first | (obtain ⟨e,_⟩:=h;subst e;rfl) | (obtain ⟨_,h⟩:=h)))):FN P w K mg base (k+1) name ps sp:=FN.of D S hb len hbody
end
section
variable {X:Cx} {k:Nat} {name:Str} {ps:List Str} {sp:Sp} {p pos:Pos} {e:Expr} {es:List Expr} {t:TA}
theorem zp (F:FN X.prog X.w X.K X.mg X.base k name ps sp) (hr:Room k X.A) (hg:Gl X name) (ha:PA X (e :: es) t) (hdb:autoParam ((name == ("__debug__":Str))=false) aR._auto_2)
  (he:autoParam (starEach (e :: es) X.env=(false,eval e X.env) :: starEach es X.env) aR._auto_1) (hpl:autoParam ((backTo pos (starEach es X.env)).any (·.1)=false) aR._auto_1):
  PE X (.Call (.Name name p) (e :: es) [] pos) (z2I sp [] E0 t):=by
 obtain ⟨f,fd,a,b,c,d⟩:=F
 exact z3b d hr hg a b c .nil z2e ha hdb he hpl
end
inductive Scal:V→Prop where
 | non:Scal .non
 | bl (b:Bool):Scal (.bl b)
 | int (i:Int):Scal (.int i)
 | str (s:Str) (h:s.length≤sizeLine):Scal (.str s)
noncomputable def jC:V→Bool
 | .int _=>true
 | _=>false
noncomputable def isB:V→Bool
 | .bl _=>true
 | _=>false
noncomputable def isS:V→Bool
 | .str _=>true
 | _=>false
noncomputable def qQ (x:V) (lo hi:Int):Bool:=match x with
 | .int i=>decide (lo≤i)&&decide (i≤hi)
 | _=>false
noncomputable def Z6 (x:V) (most:Int):Bool:=match x with
 | .str s=>decide ((1:Int)≤(s.length:Int))&&decide ((s.length:Int)≤most)&&Txt.isascii s&&Txt.isalpha s
 | _=>false
noncomputable def low:V→Bool
 | .str s=>Txt.islower s
 | _=>false
noncomputable def JF (x:V):Bool:=Z6 x 4&&low x
noncomputable def JI (x:V):Bool:=Z6 x 8
noncomputable def z4B (x:V):Bool:=qQ x 0 99
noncomputable def J3 (x:V) (most:Int):Bool:=decide (x=.non)||isB x||qQ x (-most) most||JI x
noncomputable def Z0 (x:V):Bool:=J3 x 1000000000
noncomputable def JW (x:V):Bool:=qQ x 1 9
noncomputable def Qp (x:V):Bool:=qQ x 2 9
noncomputable def z4z (x:V):Bool:=decide (x=.non)
noncomputable def Q2:List (Str × Str):=[("push","value"),("load","name"),("quick","name"),("store","name"),("clear","name"),("copy","copied"),("swap","swapped"),("jump","mark"),("iftrue","mark"),("iffalse","mark"),("ortrue","mark"),("orfalse","mark"),("try","mark"),("label","mark"),("add","none"),("sub","none"),("mul","none"),("div","none"),("rest","none"),("less","none"),("same","none"),("neg","none"),("not","none"),("drop","none"),("tell","none"),("return","none"),("raise","none"),("endtry","none")]
noncomputable def qa (op:Str):Option Str:=Q2.lookup op
noncomputable def jj (sort:Str) (x:V):Bool:=
 if sort="value" then Z0 x else if sort="name" then JF x else if sort="copied" then JW x else if sort="swapped" then Qp x else if sort="mark" then z4B x else z4z x
noncomputable def Zu (op:Str) (x:V):Bool:=match qa op with
 | some s=>jj s x
 | none=>false
noncomputable def rowV (op:Str) (arg line:V):Bool:=(qa op).isSome&&Zu op arg&&qQ line 0 9999
structure Glo (mg:Str→Option Value):Prop where
 isinstance:mg "isinstance"=none
 int:mg "int"=none
 bool:mg "bool"=none
 str:mg "str"=none
 tuple:mg "tuple"=none
 list:mg "list"=none
 len:mg "len"=none
 range:mg "range"=none
 enumerate:mg "enumerate"=none
 rows:∃u,mg "MOST_ROWS"=some u∧RelV (.int 150) u
 line:∃u,mg "MOST_LINE"=some u∧RelV (.int 9999) u
 mark:∃u,mg "MOST_MARK"=some u∧RelV (.int 99) u
 pushed:∃u,mg "MOST_PUSHED"=some u∧RelV (.int 1000000000) u
 name:∃u,mg "LONGEST_NAME"=some u∧RelV (.int 4) u
 kind:∃u,mg "LONGEST_KIND"=some u∧RelV (.int 8) u
 all:mg "all"=none
 dict:mg "dict"=none
 max:mg "max"=none
 min:mg "min"=none
 abs:mg "abs"=none
 made:∃u,mg "MOST_MADE"=some u∧RelV (.int 1000000000000000000) u
 names:∃u,mg "MOST_NAMES"=some u∧RelV (.int 8) u
 steps:∃u,mg "MOST_STEPS"=some u∧RelV (.int 100000) u
theorem zx:bootBuiltins "isinstance"=some (.builtin "isinstance"):=by trivial
theorem z20:bootBuiltins "int"=some (.type "int"):=by trivial
theorem jk:bootBuiltins "bool"=some (.type "bool"):=by trivial
theorem z01:bootBuiltins "str"=some (.type "str"):=by trivial
theorem Jm:bootBuiltins "tuple"=some (.type "tuple"):=by trivial
theorem jM:bootBuiltins "list"=some (.type "list"):=by trivial
theorem qt:bootBuiltins "len"=some (.builtin "len"):=by trivial
theorem z1R {K:ky} {H:Hp} {x:V} (h:Scal x):∃t,TyOf K H x t∧PySem.W.kitOne K t (.type "int")=some (jC x||isB x):=by
 cases h with
 | non=>exact ⟨_,.non,rfl⟩
 | bl b=>exact ⟨_,.bl b,rfl⟩
 | int i=>exact ⟨_,.int i,rfl⟩
 | str s _=>exact ⟨_,.str s,rfl⟩
theorem jB {K:ky} {H:Hp} {x:V} (h:Scal x):∃t,TyOf K H x t∧PySem.W.kitOne K t (.type "bool")=some (isB x):=by
 cases h with
 | non=>exact ⟨_,.non,rfl⟩
 | bl b=>exact ⟨_,.bl b,rfl⟩
 | int i=>exact ⟨_,.int i,rfl⟩
 | str s _=>exact ⟨_,.str s,rfl⟩
theorem z1Q {K:ky} {H:Hp} {x:V} (h:Scal x):∃t,TyOf K H x t∧PySem.W.kitOne K t (.type "str")=some (isS x):=by
 cases h with
 | non=>exact ⟨_,.non,rfl⟩
 | bl b=>exact ⟨_,.bl b,rfl⟩
 | int i=>exact ⟨_,.int i,rfl⟩
 | str s _=>exact ⟨_,.str s,rfl⟩
theorem z2q {K:ky} {H:Hp} {x:V} (h:Scal x):∃t,TyOf K H x t∧PySem.W.kitOne K t (.type "tuple")=some false:=by
 cases h with
 | non=>exact ⟨_,.non,rfl⟩
 | bl b=>exact ⟨_,.bl b,rfl⟩
 | int i=>exact ⟨_,.int i,rfl⟩
 | str s _=>exact ⟨_,.str s,rfl⟩
section
variable {X:Cx}
theorem Z2 (T:String) {x:Str} {pos:Pos} (hg:Gl X x) (hm:X.mg x=none) (hv:bootBuiltins x=some (.type T)) (hn:autoParam (x≠"__name__") aR._auto_2) (hd:autoParam ((x == ("__debug__":Str))=false) aR._auto_2):PE X (.Name x pos) (tC (.ty T)):=z6p hg hm hv rfl hn hd
theorem jt {x:Str} {v:V} {pos:Pos} (hg:Gl X x) (hm:∃u,X.mg x=some u∧RelV v u) (hd:autoParam ((x == ("__debug__":Str))=false) aR._auto_2):PE X (.Name x pos) (tC v):=by
 obtain ⟨u,h1,h2⟩:=hm
 exact qh hg h1 h2 hd
end
section
def sp1 (f:V→Bool):Sp:=fun vs H Q _=>∃x,vs=[x]∧Scal x∧Q (.bl (f x)) H
theorem z98 {f:V→Bool} (vs:List V) (H:Hp) (Q:VK) (E:XK) (h:sp1 f vs H Q E):vs.length=1:=by
 obtain ⟨x,rfl,_⟩:=h
 rfl
theorem sc14:zj ["thing"] ["thing"] (zd (top 14)):=fsM
theorem z0D (D:zo K mg "is_number" (top 14)) (G:Glo mg):FN P w K mg base 1 "is_number" ["thing"] (sp1 jC):=by
 refine FN.o D sc14 fun f cdv A outer s H vs Q E hr h=>?_
 obtain ⟨x,rfl,hx,q⟩:=h
 refine ⟨_,zc (zm (j7 (zy zM rfl G.isinstance zx (z6 (pv 0) (z6 (Z2 "int" rfl G.int z20) z7)))
  (jh (z0j (zy zM rfl G.isinstance zx (z6 (pv 0) (z6 (Z2 "bool" rfl G.bool jk) z7))))))),?_⟩
 try dsimp only [L2.cxOf,L2.Cx.nox]
 obtain ⟨t1,ty1,k1⟩:=z1R (K:=K) (H:=H) hx
 obtain ⟨t2,ty2,k2⟩:=jB (K:=K) (H:=H) hx
 refine ⟨_,rfl,_,"int",t1,_,rfl,ty1,k1,_,rfl,?_⟩
 cases hx with
 | non=>exact q
 | bl b=>exact ⟨_,rfl,_,"bool",t2,_,rfl,ty2,k2,_,rfl,q⟩
 | int i=>exact ⟨_,rfl,_,"bool",t2,_,rfl,ty2,k2,_,rfl,q⟩
 | str s _=>exact q
def jP:Sp:=fun vs H Q _=>∃x lo hi,vs=[x,.int lo,.int hi]∧Scal x∧Q (.bl (qQ x lo hi)) H
theorem sc15:zj ["thing","low","high"] ["thing","low","high"] (zd (top 15)):=fsM
theorem z3D (D:zo K mg "is_number_within" (top 15)) (G:Glo mg) (F1:FN P w K mg base 1 "is_number" ["thing"] (sp1 jC)):FN P w K mg base 2 "is_number_within" ["thing","low","high"] jP:=by
 refine FN.o D sc15 fun f cdv A outer s H vs Q E hr h=>?_
 obtain ⟨x,lo,hi,rfl,hx,q⟩:=h
 refine ⟨_,zc (zm (j7 (zp F1 hr rfl (z6 (pv 0) z7)) (jh (JA z1b z1b (pv 1) (pv 0) (pv 2))))),?_⟩
 try dsimp only [L2.cxOf,L2.Cx.nox]
 refine ⟨_,rfl,x,rfl,hx,_,rfl,?_⟩
 cases hx with
 | non=>exact q
 | bl b=>exact q
 | str s _=>exact q
 | int i=>
  refine ⟨_,rfl,_,rfl,_,_,rfl,rfl,_,rfl,?_⟩
  have q':Q (.bl (decide (lo≤i)&&decide (i≤hi))) H:=q
  refine ite2 (fun c=>?_) (fun c=>?_)
  ·rw [c,Bool.true_and] at q'
   exact ⟨_,rfl,_,_,rfl,rfl,q'⟩
  ·rw [Bool.eq_false_iff.mpr c,Bool.false_and] at q'
   exact q'
def Qv:Sp:=fun vs H Q _=>∃x most,vs=[x,.int most]∧Scal x∧Q (.bl (Z6 x most)) H
theorem sc16:zj ["thing","most"] ["thing","most"] (zd (top 16)):=fsM
theorem z2w (D:zo K mg "is_letters" (top 16)) (G:Glo mg):FN P w K mg base 1 "is_letters" ["thing","most"] Qv:=by
 refine FN.o D sc16 fun f cdv A outer s H vs Q E hr h=>?_
 obtain ⟨x,most,rfl,hx,q⟩:=h
 refine ⟨_,zc (zm (j7 (zy zM rfl G.isinstance zx (z6 (pv 0) (z6 (Z2 "str" rfl G.str z01) z7)))
  (j7 (JA z1b z1b zg (zy z0J rfl G.len qt (z6 (pv 0) z7)) (pv 1))
  (j7 (z1H F.plainAttrs_str F.slot_str_isascii F.type_str_isascii z2g (pv 0))
  (jh (z1H F.plainAttrs_str F.slot_str_isalpha F.type_str_isalpha z2h (pv 0))))))),?_⟩
 try dsimp only [L2.cxOf,L2.Cx.nox]
 obtain ⟨t1,ty1,k1⟩:=z1Q (K:=K) (H:=H) hx
 refine ⟨_,rfl,_,"str",t1,_,rfl,ty1,k1,_,rfl,?_⟩
 cases hx with
 | non=>exact q
 | bl b=>exact q
 | int i=>exact q
 | str z hz=>
  have q':Q (.bl (decide ((1:Int)≤(z.length:Int))&&decide ((z.length:Int)≤most)&&Txt.isascii z&&Txt.isalpha z)) H:=q
  refine ⟨_,rfl,z,rfl,hz,_,_,rfl,rfl,_,rfl,?_⟩
  refine ite2 (fun c=>?_) (fun c=>?_)
  ·rw [c,Bool.true_and] at q'
   refine ⟨_,rfl,_,_,rfl,rfl,_,rfl,?_⟩
   refine ite2 (fun c=>?_) (fun c=>?_)
   ·rw [c,Bool.true_and] at q'
    refine ⟨_,rfl,rfl,z,rfl,rfl,_,rfl,?_⟩
    refine ite2 (fun c=>?_) (fun c=>?_)
    ·rw [c,Bool.true_and] at q'
     exact ⟨_,rfl,rfl,z,rfl,rfl,q'⟩
    ·rw [Bool.eq_false_iff.mpr c,Bool.false_and] at q'
     exact q'
   ·rw [Bool.eq_false_iff.mpr c,Bool.false_and,Bool.false_and] at q'
    exact q'
  ·rw [Bool.eq_false_iff.mpr c,Bool.false_and,Bool.false_and,Bool.false_and] at q'
   exact ⟨_,rfl,q'⟩
theorem sc17:zj ["thing"] ["thing"] (zd (top 17)):=fsM
theorem z6T (D:zo K mg "is_name" (top 17)) (G:Glo mg) (F1:FN P w K mg base 1 "is_letters" ["thing","most"] Qv):FN P w K mg base 2 "is_name" ["thing"] (sp1 JF):=by
 refine FN.o D sc17 fun f cdv A outer s H vs Q E hr h=>?_
 obtain ⟨x,rfl,hx,q⟩:=h
 refine ⟨_,zc (zm (j7 (zp F1 hr rfl (z6 (pv 0) (z6 (jt rfl G.name) z7)))
  (jh (z1H F.plainAttrs_str F.slot_str_islower F.type_str_islower z2f (pv 0))))),?_⟩
 try dsimp only [L2.cxOf,L2.Cx.nox]
 refine ⟨_,rfl,x,4,rfl,hx,_,rfl,?_⟩
 have q':Q (.bl (Z6 x 4&&low x)) H:=q
 refine ite2 (fun c=>?_) (fun c=>?_)
 ·rw [c,Bool.true_and] at q'
  cases hx with
  | non=>cases c
  | bl b=>cases c
  | int i=>cases c
  | str z hz=>exact ⟨_,rfl,rfl,z,rfl,rfl,q'⟩
 ·rw [Bool.eq_false_iff.mpr c,Bool.false_and] at q'
  exact q'
theorem sc18:zj ["thing"] ["thing"] (zd (top 18)):=fsM
theorem z6Y (D:zo K mg "is_kind" (top 18)) (G:Glo mg) (F1:FN P w K mg base 1 "is_letters" ["thing","most"] Qv):FN P w K mg base 2 "is_kind" ["thing"] (sp1 JI):=by
 refine FN.o D sc18 fun f cdv A outer s H vs Q E hr h=>?_
 obtain ⟨x,rfl,hx,q⟩:=h
 refine ⟨_,zc (zm (zp F1 hr rfl (z6 (pv 0) (z6 (jt rfl G.kind) z7)))),?_⟩
 try dsimp only [L2.cxOf,L2.Cx.nox]
 exact ⟨_,rfl,x,8,rfl,hx,q⟩
theorem sc19:zj ["thing"] ["thing"] (zd (top 19)):=fsM
theorem z6U (D:zo K mg "is_mark" (top 19)) (G:Glo mg) (F1:FN P w K mg base 2 "is_number_within" ["thing","low","high"] jP):FN P w K mg base 3 "is_mark" ["thing"] (sp1 z4B):=by
 refine FN.o D sc19 fun f cdv A outer s H vs Q E hr h=>?_
 obtain ⟨x,rfl,hx,q⟩:=h
 refine ⟨_,zc (zm (zp F1 hr rfl (z6 (pv 0) (z6 zg (z6 (jt rfl G.mark) z7))))),?_⟩
 try dsimp only [L2.cxOf,L2.Cx.nox]
 exact ⟨_,rfl,x,0,99,rfl,hx,q⟩
def z0V:Sp:=fun vs H Q _=>∃x most,vs=[x,.int most]∧Scal x∧Q (.bl (J3 x most)) H
theorem sc20:zj ["thing","most"] ["thing","most"] (zd (top 20)):=fsM
theorem z4R (D:zo K mg "is_value_within" (top 20)) (G:Glo mg) (F1:FN P w K mg base 2 "is_number_within" ["thing","low","high"] jP) (F2:FN P w K mg base 2 "is_kind" ["thing"] (sp1 JI)):FN P w K mg base 3 "is_value_within" ["thing","most"] z0V:=by
 refine FN.o D sc20 fun f cdv A outer s H vs Q E hr h=>?_
 obtain ⟨x,most,rfl,hx,q⟩:=h
 refine ⟨_,z8 (zD (PW.pt (Qz (zl QE (pv 0) qc (zn _)) (Zj (qK (zy zM rfl G.isinstance zx (z6 (pv 0) (z6 (Z2 "bool" rfl G.bool jk) z7))))))) (zc (zm JC)) zu)
  (zc (zm (z4s (zp F1 hr rfl (z6 (pv 0) (z6 (Z1 jb (pv 1)) (z6 (pv 1) z7)))) (jh (zp F2 hr rfl (z6 (pv 0) z7)))))),?_⟩
 try dsimp only [L2.cxOf,L2.Cx.nox]
 refine ⟨_,rfl,rfl,_,rfl,?_⟩
 have q':Q (.bl (decide (x=.non)||isB x||qQ x (-most) most||JI x)) H:=q
 refine ite2 (fun c=>?_) (fun c=>?_)
 ·rw [c,Bool.true_or,Bool.true_or,Bool.true_or] at q'
  exact iteT q'
 ·rw [Bool.eq_false_iff.mpr c,Bool.false_or] at q'
  obtain ⟨t2,ty2,k2⟩:=jB (K:=K) (H:=H) hx
  refine ⟨_,rfl,_,"bool",t2,_,rfl,ty2,k2,_,rfl,?_⟩
  refine ite2 (fun c=>?_) (fun c=>?_)
  ·rw [c,Bool.true_or,Bool.true_or] at q'
   exact q'
  ·rw [Bool.eq_false_iff.mpr c,Bool.false_or] at q'
   refine ⟨_,rfl,_,rfl,most,rfl,_,rfl,x,-most,most,rfl,hx,_,rfl,?_⟩
   refine ite2 (fun c=>?_) (fun c=>?_)
   ·rw [c,Bool.true_or] at q'
    exact q'
   ·rw [Bool.eq_false_iff.mpr c,Bool.false_or] at q'
    exact ⟨_,rfl,x,rfl,hx,q'⟩
theorem sc21:zj ["thing"] ["thing"] (zd (top 21)):=fsM
theorem z3H (D:zo K mg "is_pushed" (top 21)) (G:Glo mg) (F1:FN P w K mg base 3 "is_value_within" ["thing","most"] z0V):FN P w K mg base 4 "is_pushed" ["thing"] (sp1 Z0):=by
 refine FN.o D sc21 fun f cdv A outer s H vs Q E hr h=>?_
 obtain ⟨x,rfl,hx,q⟩:=h
 refine ⟨_,zc (zm (zp F1 hr rfl (z6 (pv 0) (z6 (jt rfl G.pushed) z7)))),?_⟩
 try dsimp only [L2.cxOf,L2.Cx.nox]
 exact ⟨_,rfl,x,1000000000,rfl,hx,q⟩
theorem sc22:zj ["thing"] ["thing"] (zd (top 22)):=fsM
theorem z3I (D:zo K mg "is_copied" (top 22)) (F1:FN P w K mg base 2 "is_number_within" ["thing","low","high"] jP):FN P w K mg base 3 "is_copied" ["thing"] (sp1 JW):=by
 refine FN.o D sc22 fun f cdv A outer s H vs Q E hr h=>?_
 obtain ⟨x,rfl,hx,q⟩:=h
 refine ⟨_,zc (zm (zp F1 hr rfl (z6 (pv 0) (z6 zg (z6 zg z7))))),?_⟩
 try dsimp only [L2.cxOf,L2.Cx.nox]
 exact ⟨_,rfl,x,1,9,rfl,hx,q⟩
theorem sc23:zj ["thing"] ["thing"] (zd (top 23)):=fsM
theorem z2v (D:zo K mg "is_swapped_with" (top 23)) (F1:FN P w K mg base 2 "is_number_within" ["thing","low","high"] jP):FN P w K mg base 3 "is_swapped_with" ["thing"] (sp1 Qp):=by
 refine FN.o D sc23 fun f cdv A outer s H vs Q E hr h=>?_
 obtain ⟨x,rfl,hx,q⟩:=h
 refine ⟨_,zc (zm (zp F1 hr rfl (z6 (pv 0) (z6 zg (z6 zg z7))))),?_⟩
 try dsimp only [L2.cxOf,L2.Cx.nox]
 exact ⟨_,rfl,x,2,9,rfl,hx,q⟩
theorem sc24:zj ["thing"] ["thing"] (zd (top 24)):=fsM
theorem z6R (D:zo K mg "is_none" (top 24)):FN P w K mg base 1 "is_none" ["thing"] (sp1 z4z):=by
 refine FN.o D sc24 fun f cdv A outer s H vs Q E hr h=>?_
 obtain ⟨x,rfl,hx,q⟩:=h
 refine ⟨_,zc (zm (qv QE (pv 0) qc (zn _))),?_⟩
 try dsimp only [L2.cxOf,L2.Cx.nox]
 exact ⟨_,rfl,rfl,q⟩
theorem Q6 {α β:Type} (f:α→β) (x:Str):∀l:List (Str × α),(l.map fun p=>(p.1,f p.2)).lookup x=(l.lookup x).map f
 | []=>rfl
 | (k,v) :: r=>by
  rw [kX,List.lookup_cons,List.lookup_cons]
  cases x == k with
  | true=>rfl
  | false=>exact Q6 f x r
noncomputable def z2V:List (Str × V):=Q2.map fun p=>(p.1,V.str p.2)
theorem Qw (x:Str):z2V.lookup x=(qa x).map V.str:=Q6 _ _ _
structure Tabs (w:World) (K:ky) (mg:Str→Option Value):Prop where
 sorts:∃d,mg "ARG_SORTS"=some (.ref d)∧KTab w.params K d z2V
 tests:∃d f1 f2 f3 f4 f5 f6,mg "ARG_TESTS"=some (.ref d)∧KTab w.params K d [("value",.ref f1),("name",.ref f2),("copied",.ref f3),("swapped",.ref f4),("mark",.ref f5),("none",.ref f6)]∧
  mg "is_pushed"=some (.ref f1)∧mg "is_name"=some (.ref f2)∧mg "is_copied"=some (.ref f3)∧mg "is_swapped_with"=some (.ref f4)∧mg "is_mark"=some (.ref f5)∧mg "is_none"=some (.ref f6)
noncomputable def isOp:V→Bool
 | .str s=>(qa s).isSome
 | _=>false
theorem sc26:zj ["thing"] ["thing"] (zd (top 26)):=fsM
theorem z9K (D:zo K mg "is_op" (top 26)) (G:Glo mg) (T:Tabs w K mg):FN P w K mg base 1 "is_op" ["thing"] (sp1 isOp):=by
 refine FN.o D sc26 fun f cdv A outer s H vs Q E hr h=>?_
 obtain ⟨x,rfl,hx,q⟩:=h
 obtain ⟨d,md,td⟩:=T.sorts
 refine ⟨_,zc (zm (j7 (zy zM rfl G.isinstance zx (z6 (pv 0) (z6 (Z2 "str" rfl G.str z01) z7))) (jh (z5J (z81 td rfl md (pv 0)))))),?_⟩
 try dsimp only [L2.cxOf,L2.Cx.nox]
 obtain ⟨t1,ty1,k1⟩:=z1Q (K:=K) (H:=H) hx
 refine ⟨_,rfl,_,"str",t1,_,rfl,ty1,k1,_,rfl,?_⟩
 cases hx with
 | non=>exact q
 | bl b=>exact q
 | int i=>exact q
 | str z hz=>
  refine ⟨_,rfl,z,rfl,?_⟩
  have q':Q (.bl (qa z).isSome) H:=q
  rw [Qw,Option.isSome_map]
  exact q'
def z2M:Sp:=fun vs H Q _=>∃op s,vs=[.str op]∧qa op=some s∧Q (.str s) H
theorem sc27:zj ["op"] ["op"] (zd (top 27)):=fsM
theorem z6J (D:zo K mg "arg_sort" (top 27)) (T:Tabs w K mg):FN P w K mg base 1 "arg_sort" ["op"] z2M:=by
 refine FN.o D sc27 fun f cdv A outer s H vs Q E hr h=>?_
 obtain ⟨op,so,rfl,hs,q⟩:=h
 obtain ⟨d,md,td⟩:=T.sorts
 refine ⟨_,zc (zm (Jy td rfl md (pv 0) (fun _ _=>rfl))),?_⟩
 try dsimp only [L2.cxOf,L2.Cx.nox]
 exact ⟨_,rfl,op,.str so,rfl,by rw [Qw,hs];rfl,q⟩
def z5B:Sp:=fun vs H Q _=>∃op s x,vs=[.str op,x]∧qa op=some s∧Scal x∧Q (.bl (jj s x)) H
theorem sc28:zj ["op","arg","fits"] ["op","arg"] (zd (top 28)):=fsM
theorem z6a {op s:Str} (h:qa op=some s):s="value"∨s="name"∨s="copied"∨s="swapped"∨s="mark"∨s="none":=by
 have hm:(op,s)∈Q2:=PySem.mem_of_lookup h
 have all:∀p∈Q2,p.2="value"∨p.2="name"∨p.2="copied"∨p.2="swapped"∨p.2="mark"∨p.2="none":=by trivial
 exact all _ hm
theorem z70 (D:zo K mg "arg_fits" (top 28)) (T:Tabs w K mg) (F1:FN P w K mg base 1 "arg_sort" ["op"] z2M) (A1:FN P w K mg base 4 "is_pushed" ["thing"] (sp1 Z0)) (A2:FN P w K mg base 2 "is_name" ["thing"] (sp1 JF))
  (A3:FN P w K mg base 3 "is_copied" ["thing"] (sp1 JW)) (A4:FN P w K mg base 3 "is_swapped_with" ["thing"] (sp1 Qp)) (A5:FN P w K mg base 3 "is_mark" ["thing"] (sp1 z4B)) (A6:FN P w K mg base 1 "is_none" ["thing"] (sp1 z4z)):
  FN P w K mg base 5 "arg_fits" ["op","arg"] z5B:=by
 refine FN.o D sc28 fun f cdv A outer s H vs Q E hr h=>?_
 obtain ⟨op,so,x,rfl,hs,hx,q⟩:=h
 obtain ⟨d,f1,f2,f3,f4,f5,f6,md,td,m1,m2,m3,m4,m5,m6⟩:=T.tests
 have hr1:=hr.mono (show 1≤4 by decide)
 refine ⟨_,z8 (zA (i:=2) sc28.nd rfl (Or.inl rfl) (Jy td rfl md (zp F1 hr1 rfl (z6 (pv 0) z7)) (fun _ _=>rfl))) (zc (zm (JB (pv 2) (z6 (pv 1) z7)))),?_⟩
 try dsimp only [L2.cxOf,L2.Cx.nox]
 refine ⟨_,rfl,op,so,rfl,hs,so,?_⟩
 rcases z6a hs with e | e | e | e | e | e
 ·subst e
  obtain ⟨g,gd,mg1,kp,bd,ok⟩:=A1
  cases (kD (m1.symm.trans mg1))
  exact ⟨.ref f1,rfl,by rfl,f1,gd,_,_,4,rfl,kp,ok,hr,bd,_,rfl,x,rfl,hx,q⟩
 ·subst e
  obtain ⟨g,gd,mg1,kp,bd,ok⟩:=A2
  cases (kD (m2.symm.trans mg1))
  exact ⟨.ref f2,rfl,by rfl,f2,gd,_,_,2,rfl,kp,ok,hr.mono (by decide),bd,_,rfl,x,rfl,hx,q⟩
 ·subst e
  obtain ⟨g,gd,mg1,kp,bd,ok⟩:=A3
  cases (kD (m3.symm.trans mg1))
  exact ⟨.ref f3,rfl,by rfl,f3,gd,_,_,3,rfl,kp,ok,hr.mono (by decide),bd,_,rfl,x,rfl,hx,q⟩
 ·subst e
  obtain ⟨g,gd,mg1,kp,bd,ok⟩:=A4
  cases (kD (m4.symm.trans mg1))
  exact ⟨.ref f4,rfl,by rfl,f4,gd,_,_,3,rfl,kp,ok,hr.mono (by decide),bd,_,rfl,x,rfl,hx,q⟩
 ·subst e
  obtain ⟨g,gd,mg1,kp,bd,ok⟩:=A5
  cases (kD (m5.symm.trans mg1))
  exact ⟨.ref f5,rfl,by rfl,f5,gd,_,_,3,rfl,kp,ok,hr.mono (by decide),bd,_,rfl,x,rfl,hx,q⟩
 ·subst e
  obtain ⟨g,gd,mg1,kp,bd,ok⟩:=A6
  cases (kD (m6.symm.trans mg1))
  exact ⟨.ref f6,rfl,by rfl,f6,gd,_,_,1,rfl,kp,ok,hr.mono (by decide),bd,_,rfl,x,rfl,hx,q⟩
def z65:Sp:=fun vs H Q _=>(vs=[.non]∧Q (.bl false) H)∨∃a op arg line,vs=[.ref a]∧H a=some (.tup [.str op,arg,line])∧op.length≤sizeLine∧Scal arg∧Scal line∧Q (.bl (rowV op arg line)) H
theorem sc29:zj ["thing","op","arg","line"] ["thing"] (zd (top 29)):=fsM
theorem z8r (D:zo K mg "is_row" (top 29)) (G:Glo mg) (F1:FN P w K mg base 1 "is_op" ["thing"] (sp1 isOp)) (F2:FN P w K mg base 5 "arg_fits" ["op","arg"] z5B) (F3:FN P w K mg base 2 "is_number_within" ["thing","low","high"] jP):
  FN P w K mg base 6 "is_row" ["thing"] z65:=by
 refine FN.of D sc29 (fun _ _ _ _ _ _=>zU1 fun _=>rfl) (fun vs H Q E h=>by rcases h with ⟨rfl,_⟩ | ⟨a,op,arg,line,rfl,_⟩ <;> rfl) (fun f cdv A outer s H vs Q E hr h=>?_)
 refine ⟨_,z8 (zD (PW.pt (Qz (jy (qK (zy zM rfl G.isinstance zx (z6 (pv 0) (z6 (Z2 "tuple" rfl G.tuple Jm) z7)))))
   (Zj (zl z6r (zy zQ rfl G.len qt (z6 (pv 0) z7)) zg (zn _))))) (zc (zm JC)) zu)
  (z8 (j6 (pv 0) (jg rfl (zt (zB (i:=1) sc29.nd rfl (Or.inl rfl)) (zt (zB (i:=2) sc29.nd rfl (Or.inl rfl)) (zt (zB (i:=3) sc29.nd rfl (Or.inl rfl)) qy)))))
  (zc (zm (j7 (zp F1 (hr.mono (by decide)) rfl (z6 (pv 1) z7)) (j7 (zp F2 hr rfl (z6 (pv 1) (z6 (pv 2) z7))) (jh (zp F3 (hr.mono (by decide)) rfl (z6 (pv 3) (z6 zg (z6 (jt rfl G.line) z7)))))))))),?_⟩
 try dsimp only [L2.cxOf,L2.Cx.nox]
 rcases h with ⟨rfl,q⟩ | ⟨a,op,arg,line,rfl,ha,hop,harg,hline,q⟩
 ·obtain ⟨t1,ty1,k1⟩:=z2q (K:=K) (H:=H) .non
  exact ⟨_,rfl,_,"tuple",t1,_,rfl,ty1,k1,_,rfl,iteT (iteT q)⟩
 ·refine ⟨_,rfl,_,"tuple",_,true,rfl,.tup ha,rfl,_,rfl,iteF ?_⟩
  refine ⟨_,rfl,a,_,rfl,.inr (SqT.of ha),rfl,_,rfl,iteF ?_⟩
  refine ⟨_,rfl,a,_,rfl,SqT.of ha,rfl,_,_,rfl,_,_,rfl,_,_,rfl,rfl,?_⟩
  refine ⟨_,rfl,_,rfl,.str op hop,_,rfl,?_⟩
  have q':Q (.bl ((qa op).isSome&&Zu op arg&&qQ line 0 9999)) H:=q
  cases hs:qa op with
  | none=>
   have e:isOp (.str op)=false:=by show (qa op).isSome=false;rw [hs];rfl
   rw [e]
   rw [hs] at q'
   exact iteF q'
  | some so=>
   have e:isOp (.str op)=true:=by show (qa op).isSome=true;rw [hs];rfl
   have ea:Zu op arg=jj so arg:=by unfold Zu;rw [hs]
   rw [e]
   rw [hs,ea] at q'
   refine iteT ⟨_,rfl,_,rfl,op,so,arg,rfl,hs,harg,_,rfl,?_⟩
   refine ite2 (fun c=>?_) (fun c=>?_)
   ·rw [c] at q'
    exact ⟨_,rfl,line,0,9999,rfl,hline,q'⟩
   ·rw [Bool.eq_false_iff.mpr c] at q'
    exact q'
end
structure Row where
 op:Str
 arg:V
 line:Int
noncomputable def tupV (r:Row):List V:=[.str r.op,r.arg,.int r.line]
abbrev zS (H:Hp):List Addr→List Row→Prop:=Paired fun a r=>H a=some (.tup (tupV r))
def jV (r:Row):Prop:=rowV r.op r.arg (.int r.line)=true
theorem z1C {α β:Type} {F:α→β→Prop} {xs ys:List α} {us vs:List β} (h:Paired F xs us) (k:Paired F ys vs):Paired F (xs++ys) (us++vs):=by
 induction h with
 | nil=>exact k
 | cons r _ ih=>exact .cons r ih
theorem z34 {β:Type} {F:Addr→β→Prop} {as:List Addr} {rs:List β} (h:Paired F as rs):∀{i:Nat} {x:V},(as.map V.ref)[i]?=some x→∃a r,x=.ref a∧rs[i]?=some r∧F a r:=by
 induction h with
 | nil=>intro i x e;simp at e
 | cons r t ih=>
  intro i x e
  cases i with
  | zero=>simp at e;subst e;exact ⟨_,_,rfl,rfl,r⟩
  | succ i=>
   obtain ⟨a,r,h1,h2,h3⟩:=ih (i:=i) (x:=x) (by simpa using e)
   exact ⟨a,r,h1,by simpa using h2,h3⟩
theorem z7V {α β:Type} {F:α→β→Prop} {as:List α} {rs:List β} (h:Paired F as rs):∀{i:Nat} {r:β},rs[i]?=some r→∃a,as[i]?=some a∧F a r:=by
 induction h with
 | nil=>intro i x e;simp at e
 | cons r t ih=>
  intro i x e
  cases i with
  | zero=>simp at e;subst e;exact ⟨_,rfl,r⟩
  | succ i=>
   obtain ⟨a,h2,h3⟩:=ih (i:=i) (by simpa using e)
   exact ⟨a,by simpa using h2,h3⟩
theorem zS.keep {H H':Hp} {as:List Addr} {rs:List Row} (h:zS H as rs) (k:∀a xs,H a=some (.tup xs)→H' a=some (.tup xs)):zS H' as rs:=Paired.mapP h fun _ _ e=>k _ _ e
theorem zS.same {H H':Hp} {as:List Addr} {rs:List Row} (h:zS H as rs) (s:Same H H'):zS H' as rs:=h.keep fun _ _ e=>s _ _ e
theorem zS.get {H:Hp} {as:List Addr} {rs:List Row} {i:Nat} {x:V} (h:zS H as rs) (e:(as.map V.ref)[i]?=some x):∃a r,x=.ref a∧rs[i]?=some r∧H a=some (.tup (tupV r)):=z34 h e
theorem zS.append {H:Hp} {as bs:List Addr} {rs ts:List Row} (h:zS H as rs) (k:zS H bs ts):zS H (as++bs) (rs++ts):=z1C h k
theorem zS.len {H:Hp} {as:List Addr} {rs:List Row} (h:zS H as rs):as.length=rs.length:=Paired.length h
theorem zh {H:Hp} {p:Addr} (h:H p=none) (o:HO):Same H (upd H p o):=fun b u q=>by rw [zf (ze q h)];exact q
theorem Same.upd {H H2:Hp} {p:Addr} (s:Same H H2) (h:H p=none) (o:HO):Same H (upd H2 p o):=fun b u q=>by rw [zf (ze q h)];exact s b u q
theorem z4w {op s:Str} (h:qa op=some s):op.length≤7:=by
 have hm:(op,s)∈Q2:=PySem.mem_of_lookup h
 have all:∀p∈Q2,p.1.length≤7:=by trivial
 exact all _ hm
theorem z1w {n:Nat} (h:n≤1000):n≤sizeLine:=Nat.le_of_lt (qJ h)
theorem Qd {x:V} {m:Int} (h:Z6 x m=true) (hm:m≤100):Scal x:=by
 cases x with
 | str s=>
  have h:(decide ((1:Int)≤(s.length:Int))&&decide ((s.length:Int)≤m)&&Txt.isascii s&&Txt.isalpha s)=true:=h
  simp only [yf,yg] at h
  exact .str s (z1w (by lia))
 | _=>cases h
theorem qI {x:V} {lo hi:Int} (h:qQ x lo hi=true):∃i,x=.int i∧lo≤i∧i≤hi:=by
 cases x with
 | int i=>
  have h:(decide (lo≤i)&&decide (i≤hi))=true:=h
  simp only [yf,yg] at h
  exact ⟨i,rfl,h.1,h.2⟩
 | _=>cases h
theorem z3K {s:Str} {x:V} (h:jj s x=true):Scal x:=by
 unfold jj at h
 split at h
 ·unfold Z0 J3 at h
  simp only [Bool.or_eq_true,yg] at h
  rcases h with ((h | h) | h) | h
  ·subst h;exact .non
  ·cases x with
   | bl b=>exact .bl b
   | _=>cases h
  ·obtain ⟨i,rfl,_⟩:=qI h;exact .int i
  ·exact Qd h (by decide)
 ·split at h
  ·unfold JF at h
   simp only [yf] at h
   exact Qd h.1 (by decide)
  ·split at h
   ·obtain ⟨i,rfl,_⟩:=qI h;exact .int i
   ·split at h
    ·obtain ⟨i,rfl,_⟩:=qI h;exact .int i
    ·split at h
     ·obtain ⟨i,rfl,_⟩:=qI h;exact .int i
     ·unfold z4z at h
      simp only [yg] at h
      subst h;exact .non
theorem jV.parts {r:Row} (h:jV r):∃s,qa r.op=some s∧jj s r.arg=true∧0≤r.line∧r.line≤9999∧r.op.length≤sizeLine∧Scal r.arg:=by
 unfold jV rowV at h
 simp only [yf] at h
 obtain ⟨⟨h1,h2⟩,h3⟩:=h
 obtain ⟨s,hs⟩:=Option.isSome_iff_exists.mp h1
 have h2':jj s r.arg=true:=by unfold Zu at h2;rw [hs] at h2;exact h2
 obtain ⟨i,e,l1,l2⟩:=qI h3
 cases e
 exact ⟨s,hs,h2',l1,l2,z1w (ku (z4w hs) (by decide)),z3K h2'⟩
theorem ZK {x:V} (h:jj "mark" x=true):∃m:Int,x=.int m∧0≤m∧m≤99:=by
 have e:jj "mark" x=z4B x:=by
  unfold jj
  rw [kz (by trivial),kz (by trivial),kz (by trivial),kz (by trivial),kC rfl]
 rw [e] at h
 exact qI h
noncomputable def labP (m:Int) (r:Row):Bool:=decide (r.op="label")&&decide (r.arg=.int m)
noncomputable def zw (rs:List Row) (m:Int):Option Nat:=rs.findIdx? (labP m)
noncomputable def jG (rs:List Row) (i:Nat) (r:Row):Bool:=
 if r.op="label" then (match r.arg with | .int m=>decide (zw rs m=some i) | _=>false)
 else if qa r.op=some ("mark":Str) then (match r.arg with | .int m=>(zw rs m).isSome | _=>false) else true
def jI (kvs:List (Key × V)) (rs:List Row):Prop:=∀m:Int,valV kvs (Sum.inl m:Key)=Option.map (fun i:Nat=>V.int (i:Int)) (zw rs m)
section
def z1v (K:ky):Sp:=fun vs H Q _=>∃l as rs,vs=[.ref l]∧SqL K H l (as.map V.ref)∧zS H as rs∧(∀r∈rs,jV r)∧rs.length≤1000∧
 ∀d kvs H',H d=none→Same H H'→H' d=some (.dK kvs)→jI kvs rs→Q (.ref d) H'
theorem sc30:zj ["rows","places","place","row"] ["rows"] (zd (top 30)):=fsM
theorem Zz {α:Type} {l:List α} {i:Nat} {x:α} (h:l[i]?=some x):l.take (i+1)=l.take i++[x]:=by
 rw [List.take_add_one,h]
 rfl
theorem ZM {rs:List Row} {i:Nat} {r:Row} (h:rs[i]?=some r) (m:Int):zw (rs.take (i+1)) m=(zw (rs.take i) m).or (if labP m r=true then some i else none):=by
 have hl:(rs.take i).length=i:=by
  rw [List.length_take]
  have:=(kf.mp h).1
  lia
 unfold zw
 rw [Zz h,List.findIdx?_append,hl]
 congr 1
 rw [List.findIdx?_cons]
 by_cases c:labP m r=true
 ·rw [kC c,kC c];simp
 ·rw [kz c,kz c];simp
def z9X (H:Hp) (l d:Addr) (rs:List Row) (i:Nat) (σ:L2.St) (H2:Hp):Prop:=∃kvs v2 v3,σ=[some (.ref l),some (.ref d),v2,v3]∧Same H H2∧H2 d=some (.dK kvs)∧kvs.length≤i∧jI kvs (rs.take i)
theorem z6X (D:zo K mg "label_places" (top 30)) (G:Glo mg) (FR:FN P w K mg base 6 "is_row" ["thing"] z65):FN P w K mg base 7 "label_places" ["rows"] (z1v K):=by
 refine FN.o D sc30 fun f cdv A outer s H vs Q E hr h=>?_
 obtain ⟨l,as,rs,rfl,hS,hR,hok,hlen,q⟩:=h
 refine ⟨_,z8 (zA (i:=1) sc30.nd rfl (Or.inl rfl) Jz)
  (z8 (ZE PassesOwn.never rfl (z19 rfl G.enumerate (z6 (pv 0) z7)) (jg rfl (zt (zB (i:=2) sc30.nd rfl (Or.inl rfl)) (zt (zB (i:=3) sc30.nd rfl (Or.inl rfl)) qy)))
   (zc (zD (PW.pt (J8 (qK (zp FR hr rfl (z6 (pv 3) z7))) (Q3 (zl zT (zP qo (pv 3) zg (fun _ _=>rfl)) zi (zn _)))))
    (zc (zk (z39 (pv 1) (zP qo (pv 3) zg (fun _ _=>rfl)) (pv 2) ⟨rfl,rfl,rfl,rfl⟩))) zu)))
  (zc (zm (pv 1)))),?_⟩
 try dsimp only [L2.cxOf,L2.Cx.nox]
 intro d hd
 have hll:as.length=rs.length:=hR.len
 have hml:(as.map V.ref).length=rs.length:=by rw [kj];exact hll
 refine ⟨_,rfl,l,rfl,⟨_,(zh hd _).seq hS⟩,JS (K:=K) (a:=l) (xs:=as.map V.ref) (z9X H l d rs)
  ⟨[],none,none,rfl,zh hd _,zb,ke _,fun m=>by rw [List.take_zero];rfl⟩ (fun i σ H2 _ zz=>by obtain ⟨_,_,_,_,s2,_⟩:=zz;exact s2.seq hS) ?_ ?_⟩
 ·rintro i x σ H2 p hi ⟨kvs,v2,v3,rfl,s2,hD,hk,hL⟩ hp
  obtain ⟨a,r,rfl,hr1,ha⟩:=(hR.same s2).get hi
  have hil:i < rs.length:=(kf.mp hr1).1
  have npd:d≠p:=ze hD hp
  have nap:a≠p:=ze ha hp
  have ha':(upd H2 p (.tup [.int i,.ref a])) a=some (.tup (tupV r)):=by rw [zf nap];exact ha
  have s3:Same H (upd H2 p (.tup [.int i,.ref a])):=fun b o e=>by rw [zf (ze (s2 b o e) hp)];exact s2 b o e
  obtain ⟨so,hs,hfit,hl0,hl1,hop,hsc⟩:=(hok r (kI hr1)).parts
  have hrow:rowV r.op r.arg (.int r.line)=true:=hok r (kI hr1)
  refine ⟨p,_,rfl,SqT.of zb,rfl,_,_,rfl,_,_,rfl,rfl,?_⟩
  refine ⟨_,rfl,.inr ⟨a,r.op,r.arg,.int r.line,rfl,ha',hop,hsc,.int _,_,rfl,?_⟩⟩
  rw [hrow]
  refine iteT ⟨_,rfl,a,_,_,_,rfl,rfl,SqT.of ha',zq (j:=0) rfl,rfl,_,rfl,?_⟩
  have hD':(upd H2 p (.tup [.int i,.ref a])) d=some (.dK kvs):=by rw [zf npd];exact hD
  refine ite2 (fun c=>?_) (fun c=>?_)
  ·have eop:r.op="label":=by
    have:=kE c
    injection this
   have esort:so="mark":=by
    rw [eop] at hs
    have:qa "label"=some "mark":=by trivial
    rw [this] at hs
    exact (kD hs).symm
   rw [esort] at hfit
   obtain ⟨m,em,_,_⟩:=ZK hfit
   refine ⟨_,rfl,d,rfl,.inl ⟨kvs,.inl hD'⟩,_,rfl,a,_,_,_,rfl,rfl,SqT.of ha',zq (j:=1) rfl,_,rfl,kvs,Sum.inl m,hD',em,qJ (by lia),?_⟩
   have eP:labP m r=true:=by unfold labP;rw [eop,em];simp
   cases hv:valV kvs (Sum.inl m:Key) with
   | some v=>
    refine ⟨kvs,_,_,rfl,s3,hD',by lia,fun m'=>?_⟩
    rw [ZM hr1 m',hL m']
    by_cases e:m'=m
    ·subst e
     have:=hL m'
     rw [hv] at this
     cases h1:zw (rs.take i) m' with
     | none=>rw [h1] at this;cases this
     | some j=>rfl
    ·have:labP m' r=false:=by
      unfold labP
      rw [em]
      have:¬(V.int m=V.int m'):=fun z=>e (by injection z with z;exact z.symm)
      simp [this]
     rw [this]
     simp
   | none=>
    refine ⟨putK kvs (Sum.inl m) (.int i),_,_,rfl,fun b o e=>?_,zb,?_,fun m'=>?_⟩
    ·rw [zf (ze e hd)]
     exact s3 b o e
    ·have:=qS kvs (Sum.inl m:Key) (V.int i)
     lia
    ·rw [Qn,ZM hr1 m']
     by_cases e:m'=m
     ·subst e
      have:=hL m'
      rw [hv] at this
      rw [kC rfl,eP,kC rfl]
      cases h1:zw (rs.take i) m' with
      | none=>rfl
      | some j=>rw [h1] at this;cases this
     ·have:labP m' r=false:=by
       unfold labP
       rw [em]
       have:¬(V.int m=V.int m'):=fun z=>e (by injection z with z;exact z.symm)
       simp [this]
      rw [this,kz (fun z=>e (by injection z)),hL m']
      simp
  ·refine ⟨kvs,_,_,rfl,s3,hD',by lia,fun m'=>?_⟩
   rw [ZM hr1 m',hL m']
   have:labP m' r=false:=by
    unfold labP
    have:¬(r.op="label"):=fun z=>c (by rw [z];rfl)
    simp [this]
   rw [this]
   simp
 ·rintro σ H2 ⟨kvs,v2,v3,rfl,s2,hD,hk,hL⟩
  refine ⟨_,rfl,q d kvs H2 hd s2 hD ?_⟩
  rw [hml,List.take_length] at hL
  exact hL
end
section
def z5x:Sp:=fun vs H Q _=>∃a i d r kvs rs,vs=[.ref a,.int (i:Nat),.ref d]∧H a=some (.tup (tupV r))∧jV r∧H d=some (.dK kvs)∧jI kvs rs∧(∀m:Int,r.op="label"→r.arg=.int m→(zw rs m).isSome=true)∧Q (.bl (jG rs i r)) H
theorem sc31:zj ["row","place","labels","op","mark"] ["row","place","labels"] (zd (top 31)):=fsM
theorem Zg:qa "label"=some "mark":=by trivial
theorem z0C (D:zo K mg "mark_fits" (top 31)) (FS:FN P w K mg base 1 "arg_sort" ["op"] z2M):FN P w K mg base 2 "mark_fits" ["row","place","labels"] z5x:=by
 refine FN.o D sc31 fun f cdv A outer s H vs Q E hr h=>?_
 obtain ⟨a,i,d,r,kvs,rs,rfl,ha,hok,hd,hL,hlab,q⟩:=h
 have hu:=Zq hr
 obtain ⟨so,hs,hfit,hl0,hl1,hop,hsc⟩:=hok.parts
 refine ⟨_,z8 (ZD (i:=3) (j:=4) rfl sc31.nd rfl rfl (by decide) rfl rfl (z6 (zP qo (pv 0) zg (fun _ _=>rfl)) (z6 (zP qo (pv 0) zg (fun _ _=>rfl)) z7)) rfl)
  (z8 (zD (zl zT (pv 3) zi (zn _)) (zc (zm (qv zT (jz hu (pv 2) (pv 4) (fun _ _=>rfl)) (pv 1) (zn _)))) zu)
  (zc (zm (z4s (qv z6r (zp FS hr rfl (z6 (pv 3) z7)) zi (zn _)) (jh (z5J (z5K hu (pv 4) (pv 2)))))))),?_⟩
 try dsimp only [L2.cxOf,L2.Cx.nox]
 refine ⟨_,rfl,a,_,_,_,rfl,rfl,SqT.of ha,zq (j:=0) rfl,_,rfl,a,_,_,_,rfl,rfl,SqT.of ha,zq (j:=1) rfl,_,_,rfl,?_⟩
 refine ⟨_,rfl,rfl,_,rfl,?_⟩
 refine ite2 (fun c=>?_) (fun c=>?_)
 ·have eop:r.op="label":=by
   have:=kE c
   injection this
  have esort:so="mark":=by
   rw [eop,Zg] at hs
   exact (kD hs).symm
  rw [esort] at hfit
  obtain ⟨m,em,_,_⟩:=ZK hfit
  obtain ⟨j,hj⟩:=Option.isSome_iff_exists.mp (hlab m eop em)
  have hv:valV kvs (Sum.inl m:Key)=some (.int (j:Int)):=by rw [hL m,hj];rfl
  have hg:DGet H d r.arg (some (.int (j:Int))):=by rw [em,←hv];exact DGet.k (k:=Sum.inl m) hd
  refine ⟨_,rfl,_,rfl,d,_,rfl,hg,_,rfl,rfl,?_⟩
  have e:jG rs i r=decide (V.int (j:Int)=V.int (i:Int)):=by
   unfold jG
   rw [kC eop,em]
   show decide (zw rs m=some i)=_
   rw [hj]
   by_cases z:j=i
   ·subst z;simp
   ·rw [kh (fun y=>z (by injection y)),kh (fun y=>z (by injection y with y;lia))]
  rw [e] at q
  exact q
 ·have eop:¬r.op="label":=fun z=>c (by rw [z];rfl)
  refine ⟨_,rfl,r.op,so,rfl,hs,rfl,_,rfl,?_⟩
  unfold jG at q
  rw [kz eop,hs] at q
  by_cases e:so="mark"
  ·subst e
   rw [kC rfl] at q
   obtain ⟨m,em,_,_⟩:=ZK hfit
   have e1:(!decide (V.str "mark"=V.str "mark"))=false:=by trivial
   rw [e1]
   refine iteF ⟨_,rfl,_,rfl,d,Option.map (fun i:Nat=>V.int (i:Int)) (zw rs m),rfl,?_,?_⟩
   ·have:DGet H d r.arg (Option.map (fun i:Nat=>V.int (i:Int)) (zw rs m)):=by
     rw [em,←hL m]
     exact DGet.k (k:=Sum.inl m) hd
    exact this
   ·rw [em] at q
    rw [Option.isSome_map]
    exact q
  ·rw [kz (fun z=>e (kD z))] at q
   have e1:(!decide (V.str so=V.str "mark"))=true:=by
    rw [kh (fun z=>e (by injection z))]
    rfl
   rw [e1]
   exact iteT q
def z7F (K:ky):Sp:=fun vs H Q _=>∃l as rs,vs=[.ref l]∧SqL K H l (as.map V.ref)∧zS H as rs∧(∀r∈rs,jV r)∧rs.length≤1000∧
 (∀H',Same H H'→(∀i r,rs[i]?=some r→jG rs i r=true)→Q .non H')∧
 (∀(i:Nat) r H',Same H H'→rs[i]?=some r→jG rs i r=false→(∀j r',j < i→rs[j]?=some r'→jG rs j r'=true)→Q (.int i) H')
theorem sc32:zj ["rows","labels","place","row"] ["rows"] (zd (top 32)):=fsM
theorem z1l {rs:List Row} {i:Nat} {r:Row} {m:Int} (h:rs[i]?=some r) (h1:r.op="label") (h2:r.arg=.int m):(zw rs m).isSome=true:=by
 unfold zw
 rw [List.findIdx?_isSome,List.any_eq_true]
 exact ⟨r,kI h,by unfold labP;rw [h1,h2];simp⟩
theorem z8y (D:zo K mg "first_bad_place" (top 32)) (G:Glo mg) (FR:FN P w K mg base 6 "is_row" ["thing"] z65) (FL:FN P w K mg base 7 "label_places" ["rows"] (z1v K)) (FM:FN P w K mg base 2 "mark_fits" ["row","place","labels"] z5x):
  FN P w K mg base 8 "first_bad_place" ["rows"] (z7F K):=by
 refine FN.o D sc32 fun f cdv A outer s H vs Q E hr h=>?_
 obtain ⟨l,as,rs,rfl,hS,hR,hok,hlen,q1,q2⟩:=h
 refine ⟨_,z8 (zA (i:=1) sc32.nd rfl (Or.inl rfl) (zp FL hr rfl (z6 (pv 0) z7)))
  (z8 (ZE PassesOwn.never rfl (z19 rfl G.enumerate (z6 (pv 0) z7)) (jg rfl (zt (zB (i:=2) sc32.nd rfl (Or.inl rfl)) (zt (zB (i:=3) sc32.nd rfl (Or.inl rfl)) qy)))
   (zc (zD (PW.pt (Qz (jy (qK (zp FR (hr.mono (by decide)) rfl (z6 (pv 3) z7)))) (Zj (jy (qK (zp FM (hr.mono (by decide)) rfl (z6 (pv 3) (z6 (pv 2) (z6 (pv 1) z7)))))))))
    (zc (zm (pv 2))) zu)))
  (zc (zm qc))),?_⟩
 try dsimp only [L2.cxOf,L2.Cx.nox]
 refine ⟨_,rfl,l,as,rs,rfl,hS,hR,hok,hlen,fun d kvs H1 hd0 s1 hD hL=>?_⟩
 have hll:as.length=rs.length:=hR.len
 have hml:(as.map V.ref).length=rs.length:=by rw [kj];exact hll
 refine ⟨_,rfl,l,rfl,⟨_,s1.seq hS⟩,JS (K:=K) (a:=l) (xs:=as.map V.ref) (fun i σ H2=>∃v2 v3,σ=[some (.ref l),some (.ref d),v2,v3]∧Same H1 H2∧∀j r',j < i→rs[j]?=some r'→jG rs j r'=true)
  ⟨none,none,rfl,Same.refl _,fun j _ hj=>absurd hj (Nat.not_lt_zero _)⟩ (fun i σ H2 _ zz=>by obtain ⟨_,_,_,s2,_⟩:=zz;exact s2.seq (s1.seq hS)) ?_ ?_⟩
 ·rintro i x σ H2 p hi ⟨v2,v3,rfl,s2,hall⟩ hp
  obtain ⟨a,r,rfl,hr1,ha⟩:=((hR.same s1).same s2).get hi
  have hD2:=s2 _ _ hD
  have npd:d≠p:=ze hD2 hp
  have nap:a≠p:=ze ha hp
  have ha':(upd H2 p (.tup [.int i,.ref a])) a=some (.tup (tupV r)):=by rw [zf nap];exact ha
  have hD':(upd H2 p (.tup [.int i,.ref a])) d=some (.dK kvs):=by rw [zf npd];exact hD2
  have s3:Same H1 (upd H2 p (.tup [.int i,.ref a])):=fun b o e=>by rw [zf (ze (s2 b o e) hp)];exact s2 b o e
  have hro:=hok r (kI hr1)
  obtain ⟨so,hs,hfit,hl0,hl1,hop,hsc⟩:=hro.parts
  refine ⟨p,_,rfl,SqT.of zb,rfl,_,_,rfl,_,_,rfl,rfl,?_⟩
  refine ⟨_,rfl,.inr ⟨a,r.op,r.arg,.int r.line,rfl,ha',hop,hsc,.int _,_,rfl,?_⟩⟩
  have hrow:rowV r.op r.arg (.int r.line)=true:=hro
  rw [hrow]
  refine iteF ⟨_,rfl,_,rfl,_,rfl,a,i,d,r,kvs,rs,rfl,ha',hro,hD',hL,(fun m h1 h2=>z1l hr1 h1 h2),_,rfl,?_⟩
  cases hb:jG rs i r with
  | true=>
   refine iteF ⟨_,_,rfl,s3,fun j r' hj hr'=>?_⟩
   by_cases e:j=i
   ·subst e
    rw [hr1] at hr'
    cases hr'
    exact hb
   ·exact hall j r' (by lia) hr'
  | false=>exact iteT ⟨_,rfl,q2 i r _ (s1.trans s3) hr1 hb hall⟩
 ·rintro σ H2 ⟨v2,v3,rfl,s2,hall⟩
  refine q1 H2 (s1.trans s2) fun i r hir=>hall i r ?_ hir
  rw [hml]
  exact (kf.mp hir).1
def z7E:Sp:=fun vs H Q _=>∃l xs,vs=[.ref l]∧H l=some (.lst xs)∧1≤xs.length∧xs.length≤150∧Q (.bl true) H
theorem sc33:zj ["thing"] ["thing"] (zd (top 33)):=fsM
theorem z8x (D:zo K mg "has_places" (top 33)) (G:Glo mg):FN P w K mg base 1 "has_places" ["thing"] z7E:=by
 refine FN.o D sc33 fun f cdv A outer s H vs Q E hr h=>?_
 obtain ⟨l,xs,rfl,hl,h1,h2,q⟩:=h
 refine ⟨_,zc (zm (j7 (zy zM rfl G.isinstance zx (z6 (pv 0) (z6 (Z2 "list" rfl G.list jM) z7)))
  (jh (JA z1b z1b zg (zy zQ rfl G.len qt (z6 (pv 0) z7)) (jt rfl G.rows))))),?_⟩
 try dsimp only [L2.cxOf,L2.Cx.nox]
 refine ⟨_,rfl,_,"list",_,true,rfl,.lst hl,rfl,_,rfl,iteT ?_⟩
 refine ⟨_,rfl,l,_,rfl,.inl (SqL.of hl),_,_,rfl,rfl,_,rfl,?_⟩
 have e1:decide ((1:Int)≤(xs.length:Int))=true:=ki (by lia)
 have e2:decide ((xs.length:Int)≤150)=true:=ki (by lia)
 rw [e1]
 refine iteT ⟨_,_,rfl,rfl,?_⟩
 show Q (.bl (decide ((xs.length:Int)≤150))) H
 rw [e2]
 exact q
structure Code (rs:List Row):Prop where
 ok:∀r∈rs,jV r
 fit:∀i r,rs[i]?=some r→jG rs i r=true
 lo:1≤rs.length
 hi:rs.length≤150
def z2U:Sp:=fun vs H Q _=>∃l as rs,vs=[.ref l]∧H l=some (.lst (as.map V.ref))∧zS H as rs∧Code rs∧∀H',Same H H'→Q .non H'
theorem sc34:zj ["thing","place"] ["thing"] (zd (top 34)):=fsM
theorem z59 (D:zo K mg "check_code" (top 34)) (FH:FN P w K mg base 1 "has_places" ["thing"] z7E) (FB:FN P w K mg base 8 "first_bad_place" ["rows"] (z7F K)):FN P w K mg base 9 "check_code" ["thing"] z2U:=by
 refine FN.o D sc34 fun f cdv A outer s H vs Q E hr h=>?_
 obtain ⟨l,as,rs,rfl,hl,hR,hC,q⟩:=h
 refine ⟨_,z8 (zD (jy (qK (zp FH (hr.mono (by decide)) rfl (z6 (pv 0) z7)))) qZ zu)
  (z8 (zA (i:=1) sc34.nd rfl (Or.inl rfl) (zp FB hr rfl (z6 (pv 0) z7)))
  (zc (zD (zl Q4 (pv 1) qc (zn _)) qZ zu))),?_⟩
 try dsimp only [L2.cxOf,L2.Cx.nox]
 have hll:as.length=rs.length:=hR.len
 refine ⟨_,rfl,l,_,rfl,hl,by rw [kj,hll];exact hC.lo,by rw [kj,hll];exact hC.hi,_,rfl,iteF ?_⟩
 refine ⟨_,rfl,l,as,rs,rfl,SqL.of hl,hR,hC.ok,ku hC.hi (by decide),fun H' s' _=>?_,fun i r H' s' hi hf _=>?_⟩
 ·exact ⟨_,rfl,rfl,_,rfl,iteF (q H' s')⟩
 ·rw [hC.fit i r hi] at hf
  cases hf
end
noncomputable def zH:List (Str × Int):=[("store",1),("drop",1),("add",2),("sub",2),("mul",2),("div",2),("rest",2),("less",2),("same",2),("neg",1),("not",1),("tell",1),("iftrue",1),("iffalse",1),("ortrue",1),("orfalse",1),("return",1),("raise",1)]
noncomputable def zO:List (Str × Int):=[("push",1),("load",1),("quick",1),("copy",1),("add",1),("sub",1),("mul",1),("div",1),("rest",1),("less",1),("same",1),("neg",1),("not",1)]
noncomputable def zU:List (Str × Int):=[("try",1),("endtry",-1)]
noncomputable def jumping:List Str:=["jump","iftrue","iffalse","ortrue","orfalse"]
noncomputable def leaving:List Str:=["ortrue","orfalse"]
noncomputable def qp:List Str:=["jump","return","raise"]
noncomputable def faulting:List Str:=["load","clear","add","sub","mul","div","rest","less","neg","raise"]
noncomputable def z0x (t:List (Str × Int)):List (Str × V):=t.map fun p=>(p.1,V.int p.2)
noncomputable def tabI (t:List (Str × Int)) (x:Str):Int:=(t.lookup x).getD 0
theorem ZN (t:List (Str × Int)) (x:Str):((z0x t).lookup x).getD (.int 0)=.int (tabI t x):=by
 unfold z0x tabI
 rw [Q6]
 cases t.lookup x <;> rfl
def KTup (K:ky) (a:Addr) (xs:List V):Prop:=
 ∃(o:Obj) (its:Array Value) (n:Nat),K.lookup a=some o∧o.cls=.type "tuple"∧o.data=.seq its n∧its.size≤sizeLine∧Vals xs its.toList
theorem KTup.sq {K:ky} {a:Addr} {xs:List V} (h:KTup K a xs) (H:Hp):SqT K H a xs:=.inr h
structure z5o (w:World) (K:ky) (mg:Str→Option Value):Prop where
 takes:∃d,mg "TAKES"=some (.ref d)∧KTab w.params K d (z0x zH)
 pushes:∃d,mg "PUSHES"=some (.ref d)∧KTab w.params K d (z0x zO)
 gput:∃d,mg "GUARDS_PUT"=some (.ref d)∧KTab w.params K d (z0x zU)
 jumping:∃a,mg "JUMPING"=some (.ref a)∧KTup K a (jumping.map V.str)
 leaving:∃a,mg "LEAVING"=some (.ref a)∧KTup K a (leaving.map V.str)
 never:∃a,mg "NEVER_ON"=some (.ref a)∧KTup K a (qp.map V.str)
 faulting:∃a,mg "FAULTING"=some (.ref a)∧KTup K a (faulting.map V.str)
 first:∃a g,mg "FIRST_STATE"=some (.ref a)∧KTup K a [.int 0,.ref g]∧KTup K g []
noncomputable def inT (x:Str) (l:List Str):Bool:=inV (.str x) (l.map V.str)
theorem qT {x:Str} {l:List Str}:inT x l=true↔x∈l:=by
 unfold inT inV
 rw [List.any_map,List.any_eq_true]
 constructor
 ·rintro ⟨y,hy,e⟩
  have e:(y == x)=true:=e
  rw [beq_iff_eq] at e
  exact e▸hy
 ·exact fun h=>⟨x,h,by show (x == x)=true;simp⟩
theorem Z8 (l:List Str):(l.map V.str).all jL=true:=by
 rw [List.all_map,List.all_eq_true]
 exact fun _ _=>rfl
noncomputable def qD:List Str:=["copy","swap"]
noncomputable def zV (r:Row):Int:=if inT r.op qD=true then (match r.arg with | .int n=>n | _=>0) else tabI zH r.op
abbrev Gd:=Int × Int
def Zb (H:Hp) (x:V):Option Gd→Prop
 | none=>x=.non
 | some g=>∃a,x=.ref a∧H a=some (.tup [.int g.1,.int g.2])
theorem Zb.same {H H':Hp} {x:V} {og:Option Gd} (h:Zb H x og) (s:Same H H'):Zb H' x og:=by
 cases og with
 | none=>exact h
 | some g=>
  obtain ⟨a,e,h⟩:=h
  exact ⟨a,e,s _ _ h⟩
noncomputable def Zp (r:Row) (og:Option Gd):Bool:=decide (r.op="endtry")&&og.isNone
noncomputable def qB (r:Row) (d:Int) (og:Option Gd):Bool:=match og with
 | none=>false
 | some g=>if r.op="copy" then false else decide ((if d - zV r > 0 then d - zV r else 0) < (if g.2 < d then g.2 else d))
theorem Q8 {r:Row} (hok:jV r) (h:inT r.op qD=true):∃n:Int,r.arg=.int n∧1≤n∧n≤9:=by
 obtain ⟨s,hs,hfit,_⟩:=hok.parts
 rw [qT] at h
 rcases kF.mp h with h | h
 ·rw [h,show qa "copy"=some "copied" by trivial] at hs
  cases hs
  have e:jj "copied" r.arg=JW r.arg:=by
   unfold jj
   rw [kz (by trivial),kz (by trivial),kC rfl]
  rw [e] at hfit
  exact qI hfit
 ·rw [ko.mp h,show qa "swap"=some "swapped" by trivial] at hs
  cases hs
  have e:jj "swapped" r.arg=Qp r.arg:=by
   unfold jj
   rw [kz (by trivial),kz (by trivial),kz (by trivial),kC rfl]
  rw [e] at hfit
  obtain ⟨n,h1,h2,h3⟩:=qI hfit
  exact ⟨n,h1,by lia,h3⟩
theorem jd {K:ky} {H H':Hp} {a:Addr} {xs:List V} (s:Same H H') (h:SqT K H a xs):SqT K H' a xs:=by
 rcases h with (h | ⟨o,h⟩) | h
 ·exact .inl (.inl (s _ _ h))
 ·exact .inl (.inr ⟨o,s _ _ h⟩)
 ·exact .inr h
section
def spUp (K:ky):Sp:=fun vs H Q _=>∃(g:Addr) (as:List Addr),vs=[.ref g]∧SqT K H g (as.map V.ref)∧((as=[]∧Q .non H)∨∃bs a,as=bs++[a]∧Q (.ref a) H)
theorem sc44:zj ["guards"] ["guards"] (zd (top 44)):=fsM
theorem z9F (D:zo K mg "uppermost" (top 44)):FN P w K mg base 1 "uppermost" ["guards"] (spUp K):=by
 refine FN.o D sc44 fun f cdv A outer s H vs Q E hr h=>?_
 obtain ⟨g,as,rfl,hS,q⟩:=h
 refine ⟨_,zc (zm (qG (Qs (pv 0) (fun _=>rfl)) (zP qo (pv 0) (Z1 jb zg) (fun _ _=>rfl)) qc)),?_⟩
 try dsimp only [L2.cxOf,L2.Cx.nox]
 rcases q with ⟨rfl,q⟩ | ⟨bs,a,rfl,q⟩
 ·exact ⟨_,rfl,false,.inr (.inl ⟨_,hS,rfl⟩),iteF q⟩
 ·refine ⟨_,rfl,true,.inr (.inl ⟨_,hS,by simp⟩),iteT ⟨_,rfl,1,rfl,g,_,_,.ref a,rfl,rfl,hS,?_,q⟩⟩
  rw [kL]
  exact z02 _ _
def z12:Sp:=fun vs H Q _=>∃a r,vs=[.ref a]∧H a=some (.tup (tupV r))∧jV r∧∀H',Same H H'→Q (.int (zV r)) H'
theorem sc45:zj ["row","op","arg"] ["row"] (zd (top 45)):=fsM
theorem z5a (D:zo K mg "depth_asked" (top 45)) (T:z5o w K mg):FN P w K mg base 1 "depth_asked" ["row"] z12:=by
 refine FN.o D sc45 fun f cdv A outer s H vs Q E hr h=>?_
 obtain ⟨a,r,rfl,ha,hok,q⟩:=h
 obtain ⟨d,md,td⟩:=T.takes
 refine ⟨_,z8 (ZD (i:=1) (j:=2) rfl sc45.nd rfl rfl (by decide) rfl rfl (z6 (zP qo (pv 0) zg (fun _ _=>rfl)) (z6 (zP qo (pv 0) zg (fun _ _=>rfl)) z7)) rfl)
  (zc (zm (qG (zl qx (pv 1) (zE (z6 zi (z6 zi z7))) rfl) (pv 2) (Qt td rfl md (pv 1) zg ⟨rfl,rfl,rfl,rfl⟩)))),?_⟩
 try dsimp only [L2.cxOf,L2.Cx.nox]
 refine ⟨_,rfl,a,_,_,_,rfl,rfl,SqT.of ha,zq (j:=0) rfl,_,rfl,a,_,_,_,rfl,rfl,SqT.of ha,zq (j:=1) rfl,_,_,rfl,?_⟩
 refine ⟨_,rfl,by show 2≤sizeLine;decide,fun p hp=>?_⟩
 have s1:=zh hp (.tup (qD.map V.str))
 refine ⟨p,_,rfl,.inr (SqT.of (xs:=qD.map V.str) zb),rfl,Z8 _,_,rfl,?_⟩
 have q:=q _ s1
 unfold zV at q
 refine ite2 (fun c=>?_) (fun c=>?_)
 ·have c':inT r.op qD=true:=c
  obtain ⟨n,en,_⟩:=Q8 hok c'
  rw [kC c',en] at q
  refine ⟨r.arg,rfl,?_⟩
  rw [en]
  exact q
 ·have c':¬inT r.op qD=true:=c
  rw [kz c'] at q
  refine ⟨_,rfl,r.op,rfl,?_⟩
  rw [ZN]
  exact q
def z0Y:Sp:=fun vs H Q _=>∃a r d,vs=[.ref a,.int d]∧H a=some (.tup (tupV r))∧jV r∧∀H',Same H H'→Q (.bl (decide (d < zV r))) H'
theorem sc46:zj ["row","depth"] ["row","depth"] (zd (top 46)):=fsM
theorem z52 (D:zo K mg "lacks_values" (top 46)) (F1:FN P w K mg base 1 "depth_asked" ["row"] z12):FN P w K mg base 2 "lacks_values" ["row","depth"] z0Y:=by
 refine FN.o D sc46 fun f cdv A outer s H vs Q E hr h=>?_
 obtain ⟨a,r,d,rfl,ha,hok,q⟩:=h
 refine ⟨_,zc (zm (qv Qj (pv 1) (zp F1 hr rfl (z6 (pv 0) z7)) (zn _))),?_⟩
 try dsimp only [L2.cxOf,L2.Cx.nox]
 exact ⟨_,rfl,_,rfl,a,r,rfl,ha,hok,fun H' s'=>⟨_,_,rfl,rfl,q H' s'⟩⟩
def z0Z:Sp:=fun vs H Q _=>∃a r gv og,vs=[.ref a,gv]∧H a=some (.tup (tupV r))∧Zb H gv og∧Q (.bl (Zp r og)) H
theorem sc47:zj ["row","guard"] ["row","guard"] (zd (top 47)):=fsM
theorem z3B {H:Hp} {x:V} {og:Option Gd} (h:Zb H x og):decide (x=.non)=og.isNone:=by
 cases og with
 | none=>rw [show x=.non from h];rfl
 | some g=>obtain ⟨a,e,_⟩:=h;rw [e];rfl
theorem z53 (D:zo K mg "lacks_guard" (top 47)):FN P w K mg base 1 "lacks_guard" ["row","guard"] z0Z:=by
 refine FN.o D sc47 fun f cdv A outer s H vs Q E hr h=>?_
 obtain ⟨a,r,gv,og,rfl,ha,hg,q⟩:=h
 refine ⟨_,zc (zm (j7 (qv zT (zP qo (pv 0) zg (fun _ _=>rfl)) zi (zn _)) (jh (qv QE (pv 1) qc (zn _))))),?_⟩
 try dsimp only [L2.cxOf,L2.Cx.nox]
 refine ⟨_,rfl,a,_,_,_,rfl,rfl,SqT.of ha,zq (j:=0) rfl,rfl,_,rfl,?_⟩
 unfold Zp at q
 rw [←z3B hg] at q
 refine ite2 (fun c=>?_) (fun c=>?_)
 ·have e:r.op="endtry":=by have:=kE c;injection this
  rw [ki e,Bool.true_and] at q
  exact ⟨_,rfl,rfl,q⟩
 ·have e:¬r.op="endtry":=fun z=>c (by rw [z];rfl)
  rw [kh e,Bool.false_and] at q
  exact q
def z0e:Sp:=fun vs H Q _=>∃a r d gv og,vs=[.ref a,.int d,gv]∧H a=some (.tup (tupV r))∧jV r∧Zb H gv og∧∀H',Same H H'→Q (.bl (qB r d og)) H'
theorem sc48:zj ["row","depth","guard","lowest"] ["row","depth","guard"] (zd (top 48)):=fsM
theorem z5k:bootBuiltins "max"=some (.builtin "max"):=by trivial
theorem z5j:bootBuiltins "min"=some (.builtin "min"):=by trivial
theorem z2y (D:zo K mg "takes_beneath" (top 48)) (G:Glo mg) (F1:FN P w K mg base 1 "depth_asked" ["row"] z12):FN P w K mg base 2 "takes_beneath" ["row","depth","guard"] z0e:=by
 refine FN.o D sc48 fun f cdv A outer s H vs Q E hr h=>?_
 obtain ⟨a,r,d,gv,og,rfl,ha,hok,hg,q⟩:=h
 refine ⟨_,z8 (zD (PW.pt (Qz (zl QE (pv 2) qc (zn _)) (Zj (zl zT (zP qo (pv 0) zg (fun _ _=>rfl)) zi (zn _))))) (zc (zm JC)) zu)
  (z8 (zA (i:=3) sc48.nd rfl (Or.inl rfl) (zy (z41 rfl) rfl G.max z5k (z6 zg (z6 (zJ qU (pv 1) (zp F1 hr rfl (z6 (pv 0) z7))) z7))))
  (zc (zm (qv Qj (pv 3) (zy (z40 rfl) rfl G.min z5j (z6 (pv 1) (z6 (zP qo (pv 2) zg (fun _ _=>rfl)) z7))) (zn _))))),?_⟩
 try dsimp only [L2.cxOf,L2.Cx.nox]
 refine ⟨_,rfl,rfl,_,rfl,?_⟩
 cases og with
 | none=>
  have e:gv=.non:=hg
  subst e
  exact iteT (iteT (q H (Same.refl _)))
 | some g=>
  obtain ⟨ga,rfl,hga⟩:=hg
  refine iteF ⟨_,rfl,a,_,_,_,rfl,rfl,SqT.of ha,zq (j:=0) rfl,rfl,_,rfl,?_⟩
  unfold qB at q
  refine ite2 (fun c=>?_) (fun c=>?_)
  ·have e:r.op="copy":=by have:=kE c;injection this
   simp only [kC e] at q
   exact q H (Same.refl _)
  ·have e:¬r.op="copy":=fun z=>c (by rw [z];rfl)
   simp only [kz e] at q
   refine ⟨_,rfl,_,rfl,a,r,rfl,ha,hok,fun H' s'=>⟨_,_,rfl,rfl,_,_,rfl,?_⟩⟩
   exact ⟨_,rfl,_,rfl,_,rfl,ga,_,_,_,rfl,rfl,SqT.of (s' _ _ hga),zq (j:=1) rfl,_,_,rfl,_,_,rfl,rfl,q H' s'⟩
end
theorem PS.imp {X:Cx} {st:Stmt} {t t':TS} (h:PS X st t) (hi:∀D σ H,t' D σ H→t D σ H):PS X st t':=fun pins s σ H D I q=>h pins s σ H D I (hi D σ H q)
abbrev Mv:=V × Int × Int
abbrev Zw (H:Hp):List Addr→List Mv→Prop:=Paired fun t m=>H t=some (.tup [m.1,.int m.2.1,.int m.2.2])
theorem Zw.same {H H':Hp} {ts:List Addr} {ms:List Mv} (h:Zw H ts ms) (k:∀a xs,H a=some (.tup xs)→H' a=some (.tup xs)):Zw H' ts ms:=Paired.mapP h fun _ _ e=>k _ _ e
theorem Zw.append {H:Hp} {as bs:List Addr} {rs ts:List Mv} (h:Zw H as rs) (k:Zw H bs ts):Zw H (as++bs) (rs++ts):=z1C h k
theorem Zw.get {H:Hp} {as:List Addr} {rs:List Mv} {i:Nat} {x:V} (h:Zw H as rs) (e:(as.map V.ref)[i]?=some x):∃a r,x=.ref a∧rs[i]?=some r∧H a=some (.tup [r.1,.int r.2.1,.int r.2.2]):=z34 h e
noncomputable def zG (r:Row) (d:Int):Int:=d - tabI zH r.op+tabI zO r.op
noncomputable def labV (rs:List Row) (m:Int):V:=match zw rs m with
 | some j=>.int (j:Nat)
 | none=>.non
noncomputable def argM (x:V):Int:=match x with
 | .int m=>m
 | _=>0
noncomputable def mv1 (r:Row) (place:Nat) (d:Int):List Mv:=if inT r.op qp=true then [] else [(.int ((place:Int)+1),zG r d,tabI zU r.op)]
noncomputable def mv2 (rs:List Row) (r:Row) (d:Int):List Mv:=if inT r.op jumping=true then [(labV rs (argM r.arg),if inT r.op leaving=true then d else zG r d,0)] else []
noncomputable def mv3 (rs:List Row) (r:Row) (og:Option Gd):List Mv:=if inT r.op faulting=true then (match og with | some g=>[(labV rs g.1,g.2+1,-1)] | none=>[]) else []
noncomputable def j8 (rs:List Row) (place:Nat) (r:Row) (d:Int) (og:Option Gd):List Mv:=if decide (d < zV r)=true then [] else if Zp r og=true then [] else mv1 r place d++mv2 rs r d++mv3 rs r og
theorem JK {rs:List Row} {i:Nat} {r:Row} (hc:Code rs) (hr:rs[i]?=some r) (h:inT r.op jumping=true):∃(m:Int) (j:Nat),r.arg=.int m∧zw rs m=some j:=by
 have hok:=hc.ok r (kI hr)
 obtain ⟨s,hs,hfit,_⟩:=hok.parts
 have hm:qa r.op=some ("mark":Str)∧r.op≠"label":=by
  rw [qT] at h
  have all:∀x∈jumping,qa x=some ("mark":Str)∧x≠"label":=by trivial
  exact all _ h
 rw [hm.1] at hs
 cases hs
 obtain ⟨m,em,_,_⟩:=ZK hfit
 have hf:=hc.fit i r hr
 unfold jG at hf
 rw [kz hm.2,kC hm.1,em] at hf
 obtain ⟨j,hj⟩:=Option.isSome_iff_exists.mp hf
 exact ⟨m,j,em,hj⟩
def sMv (σ0:Addr→L2.St) (Hin:Hp) (new:List Mv):TS:=fun D σ H=>∃(fa:Addr) (ts:List Addr) (ms:List Mv),σ=σ0 fa∧Hin fa=none∧Same Hin H∧H fa=some (.lst (ts.map V.ref))∧Zw H ts ms∧ts.length≤100∧
 ∀H' ts',Same Hin H'→H' fa=some (.lst (ts'.map V.ref))→Zw H' ts' (ms++new)→ts'.length≤ts.length+1→D.nx (σ0 fa) H'
theorem z3k {Hin H:Hp} {fa p:Addr} {ts:List Addr} {ms:List Mv} {m:Mv} (hn:Hin fa=none) (sm:Same Hin H) (hf:H fa=some (.lst (ts.map V.ref))) (hM:Zw H ts ms) (hp:H p=none):
  Same Hin (upd (upd H p (.tup [m.1,.int m.2.1,.int m.2.2])) fa (.lst (ts.map V.ref++[.ref p])))∧upd (upd H p (.tup [m.1,.int m.2.1,.int m.2.2])) fa (.lst (ts.map V.ref++[.ref p])) fa=some (.lst ((ts++[p]).map V.ref))∧
   Zw (upd (upd H p (.tup [m.1,.int m.2.1,.int m.2.2])) fa (.lst (ts.map V.ref++[.ref p]))) (ts++[p]) (ms++[m]):=by
 have npf:p≠fa:=(ze hf hp).symm
 have kt:∀a xs,(upd H p (.tup [m.1,.int m.2.1,.int m.2.2])) a=some (.tup xs)→(upd (upd H p (.tup [m.1,.int m.2.1,.int m.2.2])) fa (.lst (ts.map V.ref++[.ref p]))) a=some (.tup xs):=fun a xs e=>by
  rw [zf (fun z=>by rw [z,zf npf.symm,hf] at e;cases e)];exact e
 refine ⟨fun b o e=>?_,?_,Zw.append ((hM.same fun a xs e=>?_).same kt) (.cons ?_ .nil)⟩
 ·have e2:=sm b o e
  rw [zf (ze e hn),zf (ze e2 hp)]
  exact e2
 ·rw [zb,kL]
  rfl
 ·rw [zf (ze e hp)];exact e
 ·exact kt _ _ zb
section
structure z0Q (K:ky) (H:Hp) (l d:Addr) (rs:List Row):Prop where
 rows:∃as,SqL K H l (as.map V.ref)∧zS H as rs
 code:Code rs
 labs:∃kvs,H d=some (.dK kvs)∧jI kvs rs
theorem zS.get' {H:Hp} {as:List Addr} {rs:List Row} {i:Nat} {r:Row} (h:zS H as rs) (e:rs[i]?=some r):∃a,(as.map V.ref)[i]?=some (.ref a)∧H a=some (.tup (tupV r)):=by
 have hi:i < rs.length:=(kf.mp e).1
 obtain ⟨a,r',h1,h2,h3⟩:=zS.get (i:=i) (x:=(as.map V.ref)[i]'(by rw [kj,h.len];exact hi)) h (kM _)
 rw [e] at h2
 cases h2
 exact ⟨a,by rw [←h1];exact kM _,h3⟩
def z0X (K:ky):Sp:=fun vs H Q _=>∃l d place dep gv og rs r,vs=[.ref l,.ref d,.int (place:Nat),.int dep,gv]∧z0Q K H l d rs∧rs[place]?=some r∧Zb H gv og∧
 ∀f ts H',Same H H'→H f=none→H' f=some (.lst (ts.map V.ref))→Zw H' ts (j8 rs place r dep og)→Q (.ref f) H'
theorem sc49:zj ["code","labels","place","depth","guard","row","op","arg","behind","found"] ["code","labels","place","depth","guard"] (zd (top 49)):=fsM
theorem z4Y (D:zo K mg "moves" (top 49)) (T:z5o w K mg) (FV:FN P w K mg base 2 "lacks_values" ["row","depth"] z0Y) (FG:FN P w K mg base 1 "lacks_guard" ["row","guard"] z0Z):
  FN P w K mg base 3 "moves" ["code","labels","place","depth","guard"] (z0X K):=by
 refine FN.o D sc49 fun f cdv A outer s H vs Q E hr h=>?_
 obtain ⟨l,d,place,dep,gv,og,rs,r,rfl,hC,hrp,hg,q⟩:=h
 have hu:=Zq hr
 obtain ⟨⟨as,hS,hR⟩,hc,kvs,hd,hL⟩:=id hC
 obtain ⟨ra,hra,har⟩:=hR.get' hrp
 have hro:=hc.ok r (kI hrp)
 obtain ⟨d1,md1,td1⟩:=T.takes
 obtain ⟨d2,md2,td2⟩:=T.pushes
 obtain ⟨d3,md3,td3⟩:=T.gput
 obtain ⟨a1,ma1,ta1⟩:=T.never
 obtain ⟨a2,ma2,ta2⟩:=T.jumping
 obtain ⟨a3,ma3,ta3⟩:=T.leaving
 obtain ⟨a4,ma4,ta4⟩:=T.faulting
 let σ0:Addr→L2.St:=fun fa=>[some (.ref l),some (.ref d),some (.int (place:Nat)),some (.int dep),some gv,some (.ref ra),some (.str r.op),some r.arg,some (.int (zG r dep)),some (.ref fa)]
 refine ⟨_,z8 (zA (i:=5) sc49.nd rfl (Or.inl rfl) (zP zL (pv 0) (pv 2) (fun _ _=>rfl)))
  (z8 (ZD (i:=6) (j:=7) rfl sc49.nd rfl rfl (by decide) rfl rfl (z6 (zP qo (pv 5) zg (fun _ _=>rfl)) (z6 (zP qo (pv 5) zg (fun _ _=>rfl)) z7)) rfl)
  (z8 (zD (PW.pt (Qz (qK (zp FV hr rfl (z6 (pv 5) (z6 (pv 3) z7)))) (Zj (qK (zp FG (hr.mono (by decide)) rfl (z6 (pv 5) (z6 (pv 4) z7))))))) (zc (zm (qu z7))) zu)
  (z8 (zA (i:=8) sc49.nd rfl (Or.inl rfl) (zJ qV (zJ qU (pv 3) (Qt td1 rfl md1 (pv 6) zg ⟨rfl,rfl,rfl,rfl⟩)) (Qt td2 rfl md2 (pv 6) zg ⟨rfl,rfl,rfl,rfl⟩)))
  (z8 (zA (i:=9) sc49.nd rfl (Or.inl rfl) (qu z7))
  (z8 (PS.imp (t':=sMv σ0 H (mv1 r place dep)) (zD (zl z0k (pv 6) (qh rfl ma1 (v:=.ref a1) rfl) rfl) (zc (zk (qO (pv 9)
    (z6 (zE (z6 (zJ qV (pv 2) zg) (z6 (pv 8) (z6 (Qt td3 rfl md3 (pv 6) zg ⟨rfl,rfl,rfl,rfl⟩) z7)))) z7)))) zu) ?m1)
  (z8 (PS.imp (t':=sMv σ0 H (mv2 rs r dep)) (zD (zl qx (pv 6) (qh rfl ma2 (v:=.ref a2) rfl) rfl) (zc (zk (qO (pv 9)
    (z6 (zE (z6 (jz hu (pv 1) (pv 7) (fun _ _=>rfl)) (z6 (qG (zl qx (pv 6) (qh rfl ma3 (v:=.ref a3) rfl) rfl) (pv 3) (pv 8)) (z6 zg z7)))) z7)))) zu) ?m2)
  (z8 (PS.imp (t':=sMv σ0 H (mv3 rs r og)) (zD (PW.pt (J8 (zl qx (pv 6) (qh rfl ma4 (v:=.ref a4) rfl) rfl) (Q3 (zl Q4 (pv 4) qc (zn _))))) (zc (zk (qO (pv 9)
    (z6 (zE (z6 (z1F hu (pv 1) (zP qo (pv 4) zg (fun _ _=>rfl)) ⟨rfl,rfl,rfl,rfl⟩) (z6 (zJ qV (zP qo (pv 4) zg (fun _ _=>rfl)) zg) (z6 (Z1 jb zg) z7)))) z7)))) zu) ?m3)
  (zc (zm (pv 9)))))))))),?_⟩
 try dsimp only [L2.cxOf,L2.Cx.nox]
 case m1=>
  rintro D σ H1 ⟨fa,ts,ms,rfl,hn,sm,hf,hM,hl,k⟩
  refine ⟨_,rfl,a1,_,rfl,.inr (ta1.sq _),rfl,Z8 _,_,rfl,?_⟩
  unfold mv1 at k
  refine ite2 (fun c=>?_) (fun c=>?_)
  ·have c':¬inT r.op qp=true:=by
    intro z
    have c:(!inT r.op qp)=true:=c
    rw [z] at c;cases c
   rw [kz c'] at k
   refine ⟨_,rfl,.inl ⟨rfl,_,SqL.of hf⟩,_,rfl,_,_,rfl,rfl,_,rfl,_,rfl,r.op,rfl,by show 3≤sizeLine;decide,fun p hp=>?_⟩
   rw [ZN]
   obtain ⟨k1,k2,k3⟩:=z3k (m:=(.int ((place:Int)+1),zG r dep,tabI zU r.op)) hn sm hf hM hp
   exact ⟨fa,_,.ref p,rfl,rfl,by rw [zf (ze hf hp)];exact hf,qJ (by rw [kj];lia),k _ _ k1 k2 k3 (by simp)⟩
  ·have c':inT r.op qp=true:=by
    cases z:inT r.op qp with
    | true=>rfl
    | false=>exact absurd (show (!inT r.op qp)=true by rw [z];rfl) c
   rw [kC c'] at k
   exact k H1 ts sm hf (by rw [kY];exact hM) (by lia)
 case m2=>
  rintro D σ H1 ⟨fa,ts,ms,rfl,hn,sm,hf,hM,hl,k⟩
  refine ⟨_,rfl,a2,_,rfl,.inr (ta2.sq _),rfl,Z8 _,_,rfl,?_⟩
  unfold mv2 at k
  refine ite2 (fun c=>?_) (fun c=>?_)
  ·have c':inT r.op jumping=true:=c
   rw [kC c'] at k
   obtain ⟨m,j,em,hj⟩:=JK hc hrp c'
   have hv:valV kvs (Sum.inl m:Key)=some (.int (j:Int)):=by rw [hL m,hj];rfl
   have hgt:DGet H1 d r.arg (some (.int (j:Int))):=by rw [em,←hv];exact DGet.k (k:=Sum.inl m) (sm _ _ hd)
   refine ⟨_,rfl,.inl ⟨rfl,_,SqL.of hf⟩,_,rfl,_,rfl,d,_,rfl,hgt,_,rfl,a3,_,rfl,.inr (ta3.sq _),rfl,Z8 _,_,rfl,?_⟩
   have el:labV rs (argM r.arg)=.int (j:Nat):=by
    rw [em]
    show labV rs m=_
    unfold labV
    rw [hj]
   rw [el] at k
   have fin:∀x:Int,(if inT r.op leaving=true then dep else zG r dep)=x→∀p,H1 p=none→z13 (.ref fa) [.ref p] (upd H1 p (.tup [.int (j:Nat),.int x,.int 0])) (fun _ H2=>D.nx (σ0 fa) H2):=fun x ex p hp=>by
    rw [ex] at k
    obtain ⟨k1,k2,k3⟩:=z3k (m:=(.int (j:Nat),x,0)) hn sm hf hM hp
    exact ⟨fa,_,.ref p,rfl,rfl,by rw [zf (ze hf hp)];exact hf,qJ (by rw [kj];lia),k _ _ k1 k2 k3 (by simp)⟩
   refine ite2 (fun c2=>?_) (fun c2=>?_)
   ·have c2':inT r.op leaving=true:=c2
    exact ⟨_,rfl,by show 3≤sizeLine;decide,fin dep (kC c2')⟩
   ·have c2':¬inT r.op leaving=true:=c2
    exact ⟨_,rfl,by show 3≤sizeLine;decide,fin _ (kz c2')⟩
  ·have c':¬inT r.op jumping=true:=c
   rw [kz c'] at k
   exact k H1 ts sm hf (by rw [kY];exact hM) (by lia)
 case m3=>
  rintro D σ H1 ⟨fa,ts,ms,rfl,hn,sm,hf,hM,hl,k⟩
  refine ⟨_,rfl,a4,_,rfl,.inr (ta4.sq _),rfl,Z8 _,_,rfl,?_⟩
  unfold mv3 at k
  refine ite2 (fun c=>?_) (fun c=>?_)
  ·have c':inT r.op faulting=true:=c
   rw [kC c'] at k
   have hg1:=hg.same sm
   refine ⟨_,rfl,rfl,_,rfl,?_⟩
   cases og with
   | none=>
    have e:gv=.non:=hg
    rw [e]
    exact iteF (k H1 ts sm hf (by rw [kY];exact hM) (by lia))
   | some g=>
    obtain ⟨ga,eg,hga⟩:=hg1
    rw [kh (show ¬gv=.non by rw [eg];exact nofun)]
    have hgt:DGet H1 d (.int g.1) (valV kvs (Sum.inl g.1:Key)):=DGet.k (k:=Sum.inl g.1) (sm _ _ hd)
    have ev:(valV kvs (Sum.inl g.1:Key)).getD .non=labV rs g.1:=by
     rw [hL]
     unfold labV
     cases zw rs g.1 <;> rfl
    have eσ:(σ0 fa)[4]?=some (some (.ref ga)):=by rw [←eg];rfl
    refine iteT ⟨_,rfl,.inl ⟨rfl,_,SqL.of hf⟩,_,rfl,d,rfl,.inl ⟨kvs,.inl (sm _ _ hd)⟩,_,eσ,ga,_,_,_,rfl,rfl,SqT.of hga,zq (j:=0) rfl,_,hgt,_,eσ,ga,_,_,_,rfl,rfl,SqT.of hga,zq (j:=1) rfl,_,_,rfl,rfl,1,rfl,by show 3≤sizeLine;decide,fun p hp=>?_⟩
    rw [ev]
    obtain ⟨k1,k2,k3⟩:=z3k (m:=(labV rs g.1,g.2+1,-1)) hn sm hf hM hp
    exact ⟨fa,_,.ref p,rfl,rfl,by rw [zf (ze hf hp)];exact hf,qJ (by rw [kj];lia),k _ _ k1 k2 k3 (by simp)⟩
  ·have c':¬inT r.op faulting=true:=c
   rw [kz c'] at k
   exact iteF (k H1 ts sm hf (by rw [kY];exact hM) (by lia))
 refine ⟨_,rfl,_,rfl,l,_,_,_,rfl,rfl,hS,zq hra,?_⟩
 refine ⟨_,rfl,ra,_,_,_,rfl,rfl,SqT.of har,zq (j:=0) rfl,_,rfl,ra,_,_,_,rfl,rfl,SqT.of har,zq (j:=1) rfl,_,_,rfl,?_⟩
 refine ⟨_,rfl,_,rfl,ra,r,dep,rfl,har,hro,fun H1 s1=>⟨_,rfl,?_⟩⟩
 have empty:∀H2,Same H H2→j8 rs place r dep og=[]→∀p,H2 p=none→Q (.ref p) (upd H2 p (.lst [])):=fun H2 s2 e p hp=>by
  refine q p [] _ (My.Same.upd s2 (s2.free hp) _) (s2.free hp) zb ?_
  rw [e]
  exact .nil
 unfold j8 at q empty
 refine ite2 (fun c=>?_) (fun c=>?_)
 ·rw [kC c] at empty
  exact iteT ⟨by show 0≤sizeLine;decide,empty H1 s1 rfl⟩
 ·rw [kz c] at q empty
  refine ⟨_,rfl,_,rfl,ra,r,gv,og,rfl,s1 _ _ har,hg.same s1,_,rfl,?_⟩
  refine ite2 (fun c2=>?_) (fun c2=>?_)
  ·rw [kC c2] at empty
   exact ⟨by show 0≤sizeLine;decide,empty H1 s1 rfl⟩
  ·rw [kz c2] at q
   refine ⟨_,rfl,_,rfl,r.op,rfl,?_⟩
   rw [ZN]
   refine ⟨_,_,rfl,rfl,_,rfl,r.op,rfl,?_⟩
   rw [ZN]
   refine ⟨_,_,rfl,rfl,by show 0≤sizeLine;decide,fun fa hfa=>?_⟩
   have hn:=s1.free hfa
   refine ⟨fa,[],[],rfl,hn,My.Same.upd s1 hn _,zb,.nil,by simp,fun H3 t3 s3 f3 M3 z3=>?_⟩
   refine ⟨fa,t3,_,rfl,hn,s3,f3,M3,by simp at z3;lia,fun H4 t4 s4 f4 M4 z4=>?_⟩
   refine ⟨fa,t4,_,rfl,hn,s4,f4,M4,by simp at z3;lia,fun H5 t5 s5 f5 M5 z5=>?_⟩
   exact ⟨_,rfl,q fa t5 H5 s5 hn f5 (by simpa using M5)⟩
end
theorem Jw {X:Cx} {pos:Pos} {K:ky} {es:List Expr} {k:Nat} {t:TGs} {n:Nat} (hK:X.K=K) (hc:X.calm=true) (h:PGs X es t)
  (hn:autoParam ((assignEach es X.env).length=n) aR._auto_1) (hst:autoParam ((assignEach es X.env).findIdx? (·.1)=none) aR._auto_1):PG X (.Tuple es k pos) (gTup K n t):=by
 subst hK
 exact jg hc h hn hst
theorem z0S {σ:L2.St} {H:Hp} {F G:Hp→Prop} (h:F H):tAll σ H (fun b H5=>if b=true then F H5 else G H5):=by
 show (if true=true then F H else G H)
 rw [kC rfl]
 exact h
theorem nd3:(["goal","deeper","more"]:List Str).Nodup:=by trivial
theorem nd2:(["word","is_lacking"]:List Str).Nodup:=by trivial
theorem Zm.plain {X:Cx} {N:List Str} {nt:Nat} {scope:Scope} (nofree:∀y∈scope.names,y.2≠.free) (nocell:∀y∈scope.names,y.2≠.cell) (kind:scope.kind=.function) (names:∀y∈scope.names,y.2=.local→scope.names.lookup y.1=some .local) (hl:N.length=nt):Zm X N nt [] scope [] where
 clos:=closureFor_none nofree
 nocell:=nocell
 kind:=kind
 names:=names
 sub:=fun _ _ e=>nomatch e
 has:=fun x h=>by
  rw [z2a nofree] at h
  rcases h with h | h
  ·exact absurd h (z0p nocell x)
  ·exact absurd h (z0p nofree x)
 len:=by rw [hl];rfl
 free:=fun j x e=>by
  rw [List.getElem?_eq_none (by lia)] at e
  cases e
theorem Jh {K:ky} {a:Addr} {xs:List V} {g:TG} {tc:TT} {te:TE} {R:Hp→Prop} {H:Hp} {l:Addr} {σ0:L2.St} (Pv:Nat→List V→L2.St→Hp→Prop) (h0:Pv 0 [] σ0 (upd H l (.lst []))) (hl:∀i ys σ H,i≤xs.length→Pv i ys σ H→SqL K H a xs)
  (hs:∀i x ys σ H,xs[i]?=some x→Pv i ys σ H→g x σ H fun σ2 H4=>tc σ2 H4 fun b H5=>if b=true then te σ2 H5 fun v H6=>H6 l=some (.lst ys)∧ys.length < sizeLine∧∃m',m' < xs.length - i∧m'=xs.length - (i+1)∧i+1≤xs.length∧Pv (i+1) (ys++[v]) σ2 (upd H6 l (.lst (ys++[v])))
   else ∃m',m' < xs.length - i∧m'=xs.length - (i+1)∧i+1≤xs.length∧Pv (i+1) ys σ2 H5) (hd:∀ys σ H,Pv xs.length ys σ H→R H):
  ∃W:Nat→Nat→List V→L2.St→Hp→Prop,(∃m,W 0 m [] σ0 (upd H l (.lst [])))∧∀i m ys σ' H2,W i m ys σ' H2→
   ((Itl K a).stop i H2∧R H2)∨((Itl K a).go i H2∧∀x H3,(Itl K a).yld i H2 x H3→g x σ' H3 fun σ2 H4=>tc σ2 H4 fun b H5=>if b=true then te σ2 H5 fun v H6=>H6 l=some (.lst ys)∧ys.length < sizeLine∧∃m',m' < m∧W (i+1) m' (ys++[v]) σ2 (upd H6 l (.lst (ys++[v])))
    else ∃m',m' < m∧W (i+1) m' ys σ2 H5):=by
 refine ⟨fun i m ys σ H=>m=xs.length - i∧i≤xs.length∧Pv i ys σ H,⟨xs.length,by simp,Nat.zero_le _,h0⟩,?_⟩
 rintro i m ys σ H ⟨rfl,hi,p⟩
 have q:=hl i ys σ H hi p
 by_cases hlt:i < xs.length
 ·refine .inr ⟨⟨xs,xs[i],q,by simp [hlt]⟩,fun x H' y=>?_⟩
  obtain ⟨e,y⟩:=y
  subst e
  exact hs i x ys σ _ (y xs q) p
 ·have e:i=xs.length:=by lia
  subst e
  exact .inl ⟨⟨xs,q,ke _⟩,hd ys σ H p⟩
theorem Ji {a l:Addr} {kvs:List (Key × V)} {o:Obj} {g:TG} {tc:TT} {te:TE} {Q:VK} {H:Hp} {σ0:L2.St} (Pv:Nat→List V→L2.St→Hp→Prop) (h0:Pv 0 [] σ0 (upd H l (.lst []))) (hf:∀i ys σ H,Pv i ys σ H→H a=some (.frz o (.dK kvs)))
  (hs:∀i p k v ys σ H,kvs[i]?=some (k,v)→Pv i ys σ H→H p=none→g (.ref p) σ (upd H p (.tup [kV k,v])) fun σ2 H4=>tc σ2 H4 fun b H5=>if b=true then te σ2 H5 fun v H6=>H6 l=some (.lst ys)∧ys.length < sizeLine∧∃m',m' < kvs.length - i∧m'=kvs.length - (i+1)∧i+1≤kvs.length∧Pv (i+1) (ys++[v]) σ2 (upd H6 l (.lst (ys++[v])))
   else ∃m',m' < kvs.length - i∧m'=kvs.length - (i+1)∧i+1≤kvs.length∧Pv (i+1) ys σ2 H5) (hd:∀ys σ H,Pv kvs.length ys σ H→Q (.ref l) (upd H a (.dK kvs))):
  ∃W:Nat→Nat→List V→L2.St→Hp→Prop,(∃m,W 0 m [] σ0 (upd H l (.lst [])))∧∀i m ys σ' H2,W i m ys σ' H2→
   H2 a=some (.frz o (.dK kvs))∧(kvs.length≤i→Q (.ref l) (upd H2 a (.dK kvs)))∧(∀p k v,kvs[i]?=some (k,v)→H2 p=none→g (.ref p) σ' (upd H2 p (.tup [kV k,v])) fun σ2 H4=>tc σ2 H4 fun b H5=>if b=true then te σ2 H5 fun v H6=>H6 l=some (.lst ys)∧ys.length < sizeLine∧∃m',m' < m∧W (i+1) m' (ys++[v]) σ2 (upd H6 l (.lst (ys++[v])))
    else ∃m',m' < m∧W (i+1) m' ys σ2 H5):=by
 refine ⟨fun i m ys σ H=>m=kvs.length - i∧i≤kvs.length∧Pv i ys σ H,⟨kvs.length,by simp,Nat.zero_le _,h0⟩,?_⟩
 rintro i m ys σ H ⟨rfl,hi,p⟩
 refine ⟨hf i ys σ H p,fun hle=>?_,fun p' k v hkv hp=>hs i p' k v ys σ H hkv p hp⟩
 have e:i=kvs.length:=by lia
 subst e
 exact hd ys σ H p
noncomputable def Qa (rs:List Row) (place:Nat) (r:Row) (d:Int) (og:Option Gd):List (Str × Bool):=
 [("takes",decide (d < zV r)),("guard",Zp r og),("beneath",qB r d og),("end",inV (.int (rs.length:Nat)) ((j8 rs place r d og).map (·.1)))]
noncomputable def Zy (rs:List Row) (place:Nat) (r:Row) (d:Int) (og:Option Gd):List Str:=((Qa rs place r d og).filter (·.2)).map (·.1)
theorem z0t (rs:List Row) (m:Int):jL (labV rs m)=true:=by
 unfold labV
 cases zw rs m <;> rfl
theorem z2j (rs:List Row) (place:Nat) (r:Row) (d:Int) (og:Option Gd):((j8 rs place r d og).map (·.1)).all jL=true:=by
 rw [List.all_map,List.all_eq_true]
 intro m hm
 unfold j8 at hm
 split at hm
 ·cases hm
 ·split at hm
  ·cases hm
  ·rcases kW.mp hm with hm | hm
   ·rcases kW.mp hm with hm | hm
    ·unfold mv1 at hm
     split at hm
     ·cases hm
     ·rw [ko.mp hm];rfl
    ·unfold mv2 at hm
     split at hm
     ·rw [ko.mp hm];exact z0t _ _
     ·cases hm
   ·unfold mv3 at hm
    split at hm
    ·cases og with
     | none=>cases hm
     | some g=>rw [ko.mp hm];exact z0t _ _
    ·cases hm
noncomputable def kvs4 (wb:List (Str × Bool)):List (Key × V):=wb.map fun p=>(Sum.inr p.1,V.bl p.2)
theorem z88 (a b c d:Bool):Qc [] (kvs4 [("takes",a),("guard",b),("beneath",c),("end",d)])=kvs4 [("takes",a),("guard",b),("beneath",c),("end",d)]:=by rfl
section
def z2K (K:ky):Sp:=fun vs H Q _=>∃l d place dep gv og rs r,vs=[.ref l,.ref d,.int (place:Nat),.int dep,gv]∧z0Q K H l d rs∧rs[place]?=some r∧Zb H gv og∧
 ∀f H',Same H H'→H f=none→H' f=some (.lst ((Zy rs place r dep og).map V.str))→Q (.ref f) H'
theorem sc50:zj ["code","labels","place","depth","guard","row","goals","found"] ["code","labels","place","depth","guard"] (zd (top 50)):=fsM
theorem z4P (D:zo K mg "words_lacking" (top 50)) (G:Glo mg) (FV:FN P w K mg base 2 "lacks_values" ["row","depth"] z0Y) (FG:FN P w K mg base 1 "lacks_guard" ["row","guard"] z0Z) (FB:FN P w K mg base 2 "takes_beneath" ["row","depth","guard"] z0e)
  (FM:FN P w K mg base 3 "moves" ["code","labels","place","depth","guard"] (z0X K)):FN P w K mg base 4 "words_lacking" ["code","labels","place","depth","guard"] (z2K K):=by
 refine FN.o D sc50 fun f cdv A outer s H vs Q E hr h=>?_
 obtain ⟨l,d,place,dep,gv,og,rs,r,rfl,hC,hrp,hg,q⟩:=h
 obtain ⟨⟨as,hS,hR⟩,hc,kvs,hd,hL⟩:=id hC
 obtain ⟨ra,hra,har⟩:=hR.get' hrp
 have hro:=hc.ok r (kI hrp)
 have hr2:=hr.mono (show 2≤3 by decide)
 have hr1:=hr.mono (show 1≤3 by decide)
 refine ⟨_,z8 (zA (i:=5) sc50.nd rfl (Or.inl rfl) (zP zL (pv 0) (pv 2) (fun _ _=>rfl)))
  (z8 (z15 (N:=["goal","deeper","more"]) (nt:=3) (ix:=[]) (cl:=[]) (i:=6) rfl sc50.nd rfl (Or.inl rfl) (Zm.plain (by trivial) (by trivial) rfl (by trivial) rfl)
   (z18 (zp FM hr rfl (z6 (pv 0) (z6 (pv 1) (z6 (pv 2) (z6 (pv 3) (z6 (pv 4) z7)))))))
   (fun _ _ _ _=>Jw (K:=K) (n:=3) rfl rfl (zt (zB (i:=0) nd3 rfl (Or.inl rfl)) (zt (zB (i:=1) nd3 rfl (Or.inl rfl)) (zt (zB (i:=2) nd3 rfl (Or.inl rfl)) qy))))
   (fun _ _ _ _=>z14) (fun _ _ _ _=>pv 0))
  (z8 (zA (i:=7) sc50.nd rfl (Or.inl rfl) (z3a (ZF zi (zp FV hr2 rfl (z6 (pv 5) (z6 (pv 3) z7))) (ZF zi (zp FG hr1 rfl (z6 (pv 5) (z6 (pv 4) z7)))
    (ZF zi (zp FB hr2 rfl (z6 (pv 5) (z6 (pv 3) (z6 (pv 4) z7)))) (ZF zi (qv qx (zy zQ rfl G.len qt (z6 (pv 0) z7)) (pv 6) rfl) z35)))) rfl rfl nofun (by decide)))
  (zc (zm (z1G (N:=["word","is_lacking"]) (nt:=2) (ix:=[]) (cl:=[]) rfl (Zm.plain (by trivial) (by trivial) rfl (by trivial) rfl) (pv 7)
   (fun _ _ _ _=>Jw (K:=K) (n:=2) rfl rfl (zt (zB (i:=0) nd2 rfl (Or.inl rfl)) (zt (zB (i:=1) nd2 rfl (Or.inl rfl)) qy)))
   (fun _ _ _ _=>z6k (qK (pv 1))) (fun _ _ _ _=>pv 0)))))),?_⟩
 try dsimp only [L2.cxOf,L2.Cx.nox]
 refine ⟨_,rfl,_,rfl,l,_,_,_,rfl,rfl,hS,zq hra,?_⟩
 refine ⟨_,rfl,_,rfl,_,rfl,_,rfl,_,rfl,l,d,place,dep,gv,og,rs,r,rfl,hC,hrp,hg,fun ml ts H1 s1 hn1 hm1 hM1=>?_⟩
 generalize hms:j8 rs place r dep og=ms at hM1
 refine ⟨ml,rfl,⟨_,SqL.of hm1⟩,fun gl hgl=>Jh (K:=K) (a:=ml) (xs:=ts.map V.ref) (fun i ys σ H2=>(∃a b c,σ=[a,b,c])∧ys=(ms.take i).map (·.1)∧Same H1 H2∧H2 gl=some (.lst ys))
  ⟨⟨none,none,none,rfl⟩,rfl,zh hgl _,zb⟩ (fun i ys σ H2 _ zz=>by obtain ⟨_,_,s2,_⟩:=zz;exact s2.seq (SqL.of hm1)) ?_ ?_⟩
 ·rintro i x ys σ H2 hi ⟨⟨a,b,c,rfl⟩,rfl,s2,hp2⟩
  obtain ⟨t,m,rfl,hm,ht⟩:=(hM1.same fun a xs e=>s2 _ _ e).get hi
  have hil:i < ts.length:=by have:=(kf.mp hi).1;simpa using this
  have hml:ts.length=ms.length:=Paired.length hM1
  refine ⟨t,_,rfl,SqT.of ht,rfl,_,_,rfl,_,_,rfl,_,_,rfl,rfl,?_⟩
  refine z0S ⟨_,rfl,hp2,?_,_,?_,rfl,?_,⟨_,_,_,rfl⟩,?_,?_,zb⟩
  ·rw [kj,List.length_take]
   have h1:ms.length≤3:=by
    rw [←hms]
    unfold j8 mv1 mv2 mv3
    repeat' split
    all_goals simp
   exact qJ (by lia)
  ·rw [kj];lia
  ·rw [kj];lia
  ·rw [Zz hm,kL];rfl
  ·exact My.Same.upd s2 hgl _
 ·rintro ys σ H2 ⟨_,rfl,s2,hp2⟩
  have hml:ts.length=ms.length:=Paired.length hM1
  rw [kj,hml,List.take_length] at hp2
  have s02:=s1.trans s2
  intro fd hfd
  have hgl0:H gl=none:=s1.free hgl
  have hfd0:H fd=none:=s02.free hfd
  have s3:=zh hfd (.dK [])
  refine ⟨_,rfl,_,rfl,ra,r,dep,rfl,s3 _ _ (s02 _ _ har),hro,fun H4 s4=>?_⟩
  have s24:=s3.trans s4
  refine ⟨_,rfl,_,rfl,ra,r,gv,og,rfl,s24 _ _ (s02 _ _ har),(hg.same s02).same s24,?_⟩
  refine ⟨_,rfl,_,rfl,_,rfl,ra,r,dep,gv,og,rfl,s24 _ _ (s02 _ _ har),hro,(hg.same s02).same s24,fun H5 s5=>?_⟩
  have s25:=s24.trans s5
  refine ⟨_,rfl,l,_,rfl,.inl (s25.seq (s02.seq hS)),_,rfl,gl,_,rfl,.inl (SqL.of (s25 _ _ hp2)),rfl,by rw [←hms];exact z2j _ _ _ _ _,?_⟩
  refine ⟨s5 _ _ (s4 _ _ zb),kvs4 (Qa rs place r dep og),?_,(by show 4≤15;decide),?_⟩
  ·unfold Qa kvs4
   rw [hms,kj,hR.len]
   rfl
  ·rw [show Qc [] (kvs4 (Qa rs place r dep og))=kvs4 (Qa rs place r dep og) from z88 _ _ _ _]
   generalize hwb:Qa rs place r dep og=wb
   have hwl:wb.length=4:=by rw [←hwb];rfl
   have sH5:Same H H5:=s02.trans s25
   refine ⟨_,rfl,fd,kvs4 wb,rfl,zb,fun o l2 hl2=>?_⟩
   have nlf:l2≠fd:=fun z=>by rw [z,zb] at hl2;cases hl2
   have hl20:H l2=none:=sH5.free (by rw [zf nlf] at hl2;exact hl2)
   refine Ji (fun i ys σ H2=>(∃a b,σ=[a,b])∧ys=((wb.take i).filter (·.2)).map (fun p=>V.str p.1)∧Same H H2∧H2 l2=some (.lst ys)∧H2 fd=some (.frz o (.dK (kvs4 wb)))) ⟨⟨none,none,rfl⟩,rfl,?_,zb,?_⟩ (fun i ys σ H2 h=>h.2.2.2.2) ?_ ?_
   ·intro b o e
    rw [zf (ze e hl20),zf (ze e hfd0),zf (ze e hfd0)]
    exact sH5 _ _ e
   ·rw [zf nlf.symm];exact zb
   ·rintro i p k v ys σ H2 hi ⟨⟨a,b,rfl⟩,rfl,s2',hp2',hf2⟩ hp
    have hil:i < 4:=by have:=(kf.mp hi).1;unfold kvs4 at this;rw [kj,hwl] at this;exact this
    have hkl:(kvs4 wb).length=4:=by unfold kvs4;rw [kj,hwl]
    obtain ⟨pw,hpw,ek⟩:∃pw:Str × Bool,wb[i]?=some pw∧(k,v)=(Sum.inr pw.1,V.bl pw.2):=by
     unfold kvs4 at hi
     rw [List.getElem?_map] at hi
     cases e:wb[i]? with
     | none=>rw [e] at hi;cases hi
     | some pw=>rw [e] at hi;exact ⟨pw,rfl,(kD hi).symm⟩
    cases ek
    have npl:l2≠p:=ze hp2' hp
    have npf:fd≠p:=ze hf2 hp
    have sp:Same H (upd H2 p (.tup [kV (Sum.inr pw.1),V.bl pw.2])):=fun b o e=>by rw [zf (ze (s2' _ _ e) hp)];exact s2' _ _ e
    refine ⟨p,_,rfl,SqT.of zb,rfl,_,_,rfl,_,_,rfl,rfl,_,rfl,pw.2,rfl,?_⟩
    have efil:(wb.take (i+1)).filter (·.2)=(wb.take i).filter (·.2)++(if pw.2=true then [pw] else []):=by
     rw [Zz hpw,List.filter_append]
     congr 1
     cases hh:pw.2 <;> simp [hh]
    refine ite2 (fun c=>?_) (fun c=>?_)
    ·rw [kC c] at efil
     refine ⟨_,rfl,by rw [zf npl];exact hp2',?_,_,by lia,rfl,by lia,⟨_,_,rfl⟩,?_,?_,zb,?_⟩
     ·rw [kj]
      have h1:=List.length_filter_le (fun p:Str × Bool=>p.2) (wb.take i)
      rw [List.length_take] at h1
      exact qJ (by lia)
     ·rw [efil,kL];rfl
     ·exact fun b o e=>by rw [zf (ze e hl20)];exact sp _ _ e
     ·rw [zf nlf.symm,zf npf];exact hf2
    ·rw [kz c,kY] at efil
     exact ⟨_,by lia,rfl,by lia,⟨_,_,rfl⟩,by rw [efil],sp,by rw [zf npl];exact hp2',by rw [zf npf];exact hf2⟩
   ·rintro ys σ H2 ⟨_,rfl,s2',hp2',hf2⟩
    refine q l2 _ (fun b o e=>?_) hl20 ?_
    ·rw [zf (ze e hfd0)];exact s2' _ _ e
    ·rw [zf nlf,hp2']
     unfold Zy
     rw [hwb,show (kvs4 wb).length=wb.length by unfold kvs4;rw [kj],List.take_length,List.map_map]
     rfl
end
theorem sc52:zj ["code","labels","place","state","depth","guards"] ["code","labels","place","state"] (zd (top 52)):=fsM
noncomputable def z3W:Scope:=match (zN (top 52)).getD 1 (.Pass ⟨0,0,0,0⟩) with
 | .Return (some (.ListComp _ _ s _)) _=>s
 | _=>zd (top 52)
noncomputable def cl52 (L:Addr):List (Str × Addr):=[("state",L+1+1+1),("place",L+1+1),("code",L+1)]
noncomputable def nm52:List (Str × NameKind):=[(".0",.local),("goal",.local),("deeper",.local),("more",.local),("guards_behind",.globalImplicit),("code",.cell),("place",.cell),("state",.cell)]
noncomputable def N52:List Str:=["goal","deeper","more","code","place","state"]
theorem z8J (f:Addr) (cdv:Value) (L:Addr):closureFor z3W (envOfC "next_states" (zd (top 52)) L f cdv)=pure (cl52 L):=by rfl
theorem z9n (f:Addr) (cdv:Value) (L:Addr):(relabel z3W (envOfC "next_states" (zd (top 52)) L f cdv)).names=nm52:=by rfl
theorem cs52 {P:Program} {w:World} {K:ky} {mg:Str→Option Value} {base:Heap} {f:Addr} {cdv:Value} {A:Around} {outer:List Env} {s:Shared} {H:Hp} {E:XK}:
  Zm (cxOf CX0 P w K mg base ["code","labels","place","state","depth","guards"] "next_states" (zd (top 52)) f cdv A outer s H E).nox N52 3 [0,2,3] z3W (cl52 s.heap.objs.size) where
 clos:=z8J f cdv s.heap.objs.size
 nocell:=by trivial
 kind:=rfl
 names:=by trivial
 sub:=fun x c e=>e
 has:=fun x h=>by
  have e:=z9n f cdv s.heap.objs.size
  have h:nm52.lookup x=some .cell∨nm52.lookup x=some .free:=by rw [←e];exact h
  have:x="code"∨x="place"∨x="state":=by
   rcases h with h | h
   ·have hm:=PySem.mem_of_lookup h
    simp only [nm52,kF,Prod.mk.injEq,kq,or_false] at hm
    rcases hm with z | z | z | z | z | z | z | z
    all_goals first | exact .inl z.1 | exact .inr (.inl z.1) | exact .inr (.inr z.1) | exact z.2.elim | cases z.2
   ·have hm:=PySem.mem_of_lookup h
    simp only [nm52,kF,Prod.mk.injEq,kq,or_false] at hm
    rcases hm with z | z | z | z | z | z | z | z
    all_goals first | exact z.2.elim | cases z.2
  rcases this with rfl | rfl | rfl
  ·exact ⟨_,rfl⟩
  ·exact ⟨_,rfl⟩
  ·exact ⟨_,rfl⟩
 len:=rfl
 free:=fun j x e=>by
  match j,e with
  | 0,e=>cases e;exact ⟨0,rfl,rfl,rfl,rfl,fun c h=>h⟩
  | 1,e=>cases e;exact ⟨2,rfl,rfl,rfl,rfl,fun c h=>h⟩
  | 2,e=>cases e;exact ⟨3,rfl,rfl,rfl,rfl,fun c h=>h⟩
  | j+3,e=>exact absurd e (by rw [List.getElem?_eq_none (by show 6≤3+(j+3);lia)];exact nofun)
abbrev GsIn (H:Hp):List Addr→List Gd→Prop:=Paired fun a p=>H a=some (.tup [.int p.1,.int p.2])
def GsAt (K:ky) (H:Hp) (g:Addr) (gs:List Gd):Prop:=∃as,SqT K H g (as.map V.ref)∧GsIn H as gs
abbrev Sta:=Int × List Gd
def StA (K:ky) (H:Hp) (a:Addr) (s:Sta):Prop:=∃g,SqT K H a [.int s.1,.ref g]∧GsAt K H g s.2
theorem GsIn.same {H H':Hp} {as:List Addr} {gs:List Gd} (h:GsIn H as gs) (s:Same H H'):GsIn H' as gs:=Paired.mapP h fun _ _ e=>s _ _ e
theorem GsAt.same {K:ky} {H H':Hp} {g:Addr} {gs:List Gd} (h:GsAt K H g gs) (s:Same H H'):GsAt K H' g gs:=let ⟨as,h1,h2⟩:=h;⟨as,jd s h1,h2.same s⟩
theorem StA.same {K:ky} {H H':Hp} {a:Addr} {st:Sta} (h:StA K H a st) (s:Same H H'):StA K H' a st:=let ⟨g,h1,h2⟩:=h;⟨g,jd s h1,h2.same s⟩
theorem GsIn.append {H:Hp} {as bs:List Addr} {gs hs:List Gd} (h:GsIn H as gs) (k:GsIn H bs hs):GsIn H (as++bs) (gs++hs):=z1C h k
theorem GsIn.dropLast {H:Hp} {as:List Addr} {gs:List Gd} (h:GsIn H as gs):GsIn H as.dropLast gs.dropLast:=by
 induction h with
 | nil=>exact .nil
 | cons h t ih=>
  cases t with
  | nil=>exact .nil
  | cons h2 t=>exact .cons h ih
theorem GsIn.last {H:Hp} {as:List Addr} {gs:List Gd} (h:GsIn H as gs):(as=[]∧gs=[])∨∃bs a g,as=bs++[a]∧gs.getLast?=some g∧H a=some (.tup [.int g.1,.int g.2]):=by
 induction h with
 | nil=>exact .inl ⟨rfl,rfl⟩
 | @cons a g as gs h t ih=>
  rcases ih with ⟨rfl,rfl⟩ | ⟨bs,a',g',e1,e2,e3⟩
  ·exact .inr ⟨[],a,g,rfl,rfl,h⟩
  ·refine .inr ⟨a :: bs,a',g',by rw [e1];rfl,?_,e3⟩
   cases gs with
   | nil=>cases e2
   | cons x y=>rw [List.getLast?_cons_cons];exact e2
section
variable {X:Cx}
def z9r (K:ky):R2:=fun x y H Q=>∃a b xs ys,x=.ref a∧y=.ref b∧SqT K H a xs∧SqT K H b ys∧ys≠[]∧xs.length+ys.length≤sizeLine∧(xs=[]→Q (.ref b) H)∧(xs≠[]→∀p,H p=none→Q (.ref p) (upd H p (.tup (xs++ys))))
theorem z6s:OpR X (binaryOp .Add) (z9r X.K):=by
 intro pins s σ H x y v u Q I rx ry h
 obtain ⟨a,b,xs,ys,rfl,rfl,ha,hb,hy,hz,q1,q2⟩:=h
 by_cases hx:xs=[]
 ·subst hx
  cases rx
  cases ry
  obtain ⟨its,r1,ht,_⟩:=I.tuple ha
  obtain ⟨its2,r2,ht2,_⟩:=I.tuple hb
  cases r1
  obtain ⟨⟨cls,dd,data,sl⟩,ho,hc,n,hd⟩:=id ht
  obtain ⟨⟨cls2,dd2,data2,sl2⟩,ho2,hc2,n2,hd2⟩:=id ht2
  simp only at hc hd hc2 hd2
  subst hc hd hc2 hd2
  exact concat_meets ⟨_,ho,rfl⟩ ⟨_,ho2,rfl⟩ noFill_tuple_add seq_tuple_add PySem.F.slot_tuple_add PySem.F.entry_tuple_add (PySem.F.args_tuple_add_2 _ _)
   (tuple_addW0 a b _ _ n n2 dd dd2 sl sl2 (by simp)) ⟨ho,ho2,.ref b,H,I,rfl,q1 rfl⟩
 ·exact z3e pins s σ H _ _ v u Q I rx ry ⟨a,b,xs,ys,rfl,rfl,ha,hb,hx,hz,fun z=>absurd z hy,fun _=>q2 hx⟩
theorem z5q {A:Around} {s:Shared} {l b:Addr} {vs ws:List Value} (hl:s.heap.IsTuple l vs.toArray) (hb:s.heap.IsTuple b ws.toArray) (hn:vs.length=ws.length) (hu:A.units < cLine)
  (he:∀j (h1:j < vs.length) (h2:j < ws.length),SeqAt.EqAt A.in1 s vs[j] ws[j] true):SeqAt.EqAt A s (.ref l) (.ref b) true:=by
 by_cases z:l=b
 ·subst z;exact SeqAt.EqAt.same _
 ·refine SeqAt.EqAt.of_refs z ?_
  have:=SeqAt.RcAt.tuples (e:=fun _=>true) hl hb hu (fun j h1 h2=>by
   have:=he j (by simpa using h1) (by simpa using h2)
   simpa using this)
  have e:((List.range (min vs.toArray.size ws.toArray.size)).all (fun _=>true)&&vs.toArray.size == ws.toArray.size)=true:=by simp [hn]
  rw [e] at this
  exact this
theorem z5U:∀{xs:List V} {vs ws:List Value} {A:Around} {s:Shared},Vals xs vs→Vals xs ws→(∀x∈xs,jL x=true∧eqV x x=true)→∀j (h1:j < vs.length) (h2:j < ws.length),SeqAt.EqAt A s vs[j] ws[j] true
 :=by
 intro xs vs ws A s r
 induction r generalizing ws with
 | nil=>intro _ _ j h1 _;exact absurd h1 (Nat.not_lt_zero _)
 | @cons x v xs vs r t ih=>
  intro r2 h j h1 h2
  cases r2 with
  | cons r' t'=>
   cases j with
   | zero=>
    have e:=z3L (A:=A) (s:=s) r r' (h x (kR ..)).1 (h x (kR ..)).1
    rw [(h x (kR ..)).2] at e
    exact e
   | succ j=>exact ih t' (fun y hy=>h y (kS _ hy)) j (by simpa using h1) (by simpa using h2)
theorem z4J {pins:List (Addr × Obj)} {σ:L2.St} {H:Hp} {s:Shared} {A:Around} {a b:Addr} {g:Gd} (I:Inv X pins σ H s) (ha:H a=some (.tup [.int g.1,.int g.2])) (hb:H b=some (.tup [.int g.1,.int g.2])) (hu:A.units < cLine):SeqAt.EqAt A s (.ref a) (.ref b) true:=by
 obtain ⟨vs,r1,t1,_⟩:=I.tuple (SqT.of ha)
 obtain ⟨ws,r2,t2,_⟩:=I.tuple (SqT.of hb)
 exact z5q t1 t2 (by rw [←r1.length,←r2.length]) hu fun j h1 h2=>z5U r1 r2 (fun x hx=>by
  rcases kF.mp hx with rfl | hx
  ·exact ⟨rfl,by show (g.1 == g.1)=true;simp⟩
  ·rw [ko.mp hx];exact ⟨rfl,by show (g.2 == g.2)=true;simp⟩) j h1 h2
theorem z3A {pins:List (Addr × Obj)} {σ:L2.St} {H:Hp} {s:Shared} {A:Around} (I:Inv X pins σ H s) (hu:A.units < cLine):∀{as bs:List Addr} {gs:List Gd} {vs ws:List Value},GsIn H as gs→GsIn H bs gs→Vals (as.map V.ref) vs→Vals (bs.map V.ref) ws→∀j (h1:j < vs.length) (h2:j < ws.length),SeqAt.EqAt A s vs[j] ws[j] true
 :=by
 intro as bs gs vs ws h
 induction h generalizing bs vs ws with
 | nil=>intro _ r _ j h1 _;cases r;exact absurd h1 (Nat.not_lt_zero _)
 | cons h t ih=>
  intro g2 r r2 j h1 h2
  cases g2 with
  | cons h' t'=>cases r with
   | cons r rr=>cases r2 with
    | cons r' rr'=>
     cases j with
     | zero=>
      cases r
      cases r'
      exact z4J I h h' hu
     | succ j=>exact ih t' rr rr' j (by simpa using h1) (by simpa using h2)
theorem z9C {pins:List (Addr × Obj)} {σ:L2.St} {H:Hp} {s:Shared} {A:Around} {a b:Addr} {gs:List Gd} (I:Inv X pins σ H s) (ha:GsAt X.K H a gs) (hb:GsAt X.K H b gs) (hu:A.units+1 < cLine):SeqAt.EqAt A s (.ref a) (.ref b) true:=by
 obtain ⟨as,h1,h2⟩:=ha
 obtain ⟨bs,h3,h4⟩:=hb
 obtain ⟨vs,r1,t1,_⟩:=I.tuple h1
 obtain ⟨ws,r2,t2,_⟩:=I.tuple h3
 have e1:=Paired.length h2
 have e2:=Paired.length h4
 refine z5q t1 t2 ?_ (by lia) (z3A I (by show A.units+1 < cLine;exact hu) h2 h4 r1 r2)
 rw [←r1.length,←r2.length,kj,kj,e1,e2]
def z9p (K:ky):R2:=fun x y H Q=>∃a b st,x=.ref a∧y=.ref b∧StA K H a st∧StA K H b st∧Q (.bl false) H
theorem z6q (hu:X.A.units+3 < cLine):OpR X (compareOp .NotEq) (z9p X.K):=by
 intro pins s σ H x y v u Q I rx ry h
 obtain ⟨a,b,st,rfl,rfl,⟨g,h1,h2⟩,⟨g',h3,h4⟩,q⟩:=h
 cases rx
 cases ry
 obtain ⟨vs,r1,t1,_⟩:=I.tuple h1
 obtain ⟨ws,r2,t2,_⟩:=I.tuple h3
 have e:(!((List.range (min vs.toArray.size ws.toArray.size)).all (fun _=>true)&&vs.toArray.size == ws.toArray.size))=false:=by
  have z1:=r1.length
  have z2:=r2.length
  have z:vs.length=ws.length:=z1.symm.trans z2
  simp only [kG]
  rw [z]
  simp
 refine SeqAt.RcNeAt.tuples (e:=fun _=>true) t1 t2 (by lia) (fun j j1 j2=>?_) X.prog X.w X.xe _ ⟨.bl _,H,I,rfl,by rw [e];exact q⟩
 cases r1 with
 | cons ra rb=>
  cases r2 with
  | cons rc rd=>
   cases rb with
   | cons re rf=>
    cases rd with
    | cons rg rh=>
     cases rf
     cases rh
     match j,j1,j2 with
     | 0,_,_=>
      have e:=z3L (A:=X.A.in1) (s:=s) ra rc rfl rfl
      rw [show eqV (V.int st.1) (V.int st.1)=true by show (st.1 == st.1)=true;simp] at e
      exact e
     | 1,_,_=>
      cases re
      cases rg
      exact z9C I h2 h4 (by show X.A.units+1+1 < cLine;lia)
     | j+2,j1,_=>exact absurd j1 (by simp)
end
noncomputable def zW (r:Row) (d:Int) (gs:List Gd) (more:Int):List Gd:=if more=1 then gs++[(argM r.arg,d)] else if more= -1 then gs.dropLast else gs
section
def spGb (K:ky):Sp:=fun vs H Q _=>∃ra st r d g gs more,vs=[.ref ra,.ref st,.int more]∧H ra=some (.tup (tupV r))∧SqT K H st [.int d,.ref g]∧GsAt K H g gs∧gs.length≤1000∧(more=1→∃m,r.arg=.int m)∧(more= -1→gs≠[])∧
 ∀g' H',Same H H'→GsAt K H' g' (zW r d gs more)→Q (.ref g') H'
theorem sc51:zj ["row","state","more","depth","guards"] ["row","state","more"] (zd (top 51)):=fsM
theorem z5h {α:Type} (xs:List V) (h:xs≠[]):cutV xs none (some (-1))=xs.dropLast∧¬(HT.sIx xs.length 0 none=0∧HT.sIx xs.length xs.length (some (-1))=xs.length):=by
 have hp:0 < xs.length:=List.length_pos_iff.mpr h
 have e:HT.sIx xs.length xs.length (some (-1))=xs.length - 1:=by
  show (if (-1:Int) < 0 then ((-1:Int)+(xs.length:Int)).toNat else min (-1:Int).toNat xs.length)=_
  rw [kC (by decide)]
  lia
 refine ⟨?_,fun z=>by rw [e] at z;lia⟩
 unfold cutV
 rw [e]
 show (xs.drop 0).take (xs.length - 1 - 0)=_
 rw [List.drop_zero,Nat.sub_zero,List.dropLast_eq_take]
theorem z9R (D:zo K mg "guards_behind" (top 51)):FN P w K mg base 1 "guards_behind" ["row","state","more"] (spGb K):=by
 refine FN.o D sc51 fun f cdv A outer s H vs Q E hr h=>?_
 obtain ⟨ra,st,r,d,g,gs,more,rfl,har,hst,⟨as,hga,hgs⟩,hz,h1,h2,q⟩:=h
 refine ⟨_,z8 (j6 (pv 1) (jg rfl (zt (zB (i:=3) sc51.nd rfl (Or.inl rfl)) (zt (zB (i:=4) sc51.nd rfl (Or.inl rfl)) qy))))
  (z8 (zD (zl zT (pv 2) zg (zn _)) (zc (zm (zJ z6s (pv 4) (zE (z6 (zE (z6 (zP qo (pv 0) zg (fun _ _=>rfl)) (z6 (pv 3) z7))) z7))))) zu)
  (zc (zm (qG (zl zT (pv 2) (Z1 jb zg) (zn _)) (Jx z7G (pv 4) z17 (z16 (Z1 jb zg))) (pv 4))))),?_⟩
 try dsimp only [L2.cxOf,L2.Cx.nox]
 refine ⟨_,rfl,st,_,rfl,hst,rfl,_,_,rfl,_,_,rfl,rfl,?_⟩
 refine ⟨_,rfl,rfl,_,rfl,?_⟩
 have hal:as.length=gs.length:=Paired.length hgs
 unfold zW at q
 refine ite2 (fun c=>?_) (fun c=>?_)
 ·have e:more=1:=by have:=kE c;injection this
  obtain ⟨m,em⟩:=h1 e
  rw [kC e,em] at q
  refine ⟨_,rfl,_,rfl,ra,_,_,_,rfl,rfl,SqT.of har,zq (j:=1) rfl,_,rfl,by show 2≤sizeLine;decide,fun p hp=>⟨by show 1≤sizeLine;decide,fun p2 hp2=>?_⟩⟩
  have s1:=zh hp (.tup [r.arg,.int d])
  have s2:=zh hp2 (.tup [.ref p])
  have hp':(upd (upd H p (.tup [r.arg,.int d])) p2 (.tup [.ref p])) p=some (.tup [.int (argM (.int m)),.int d]):=by
   rw [←em]
   have:=s2 _ _ (zb (H:=H) (a:=p) (o:=.tup [r.arg,.int d]))
   rw [this,em]
   rfl
  have s12:=s1.trans s2
  refine ⟨g,p2,as.map V.ref,[.ref p],rfl,rfl,jd s12 hga,SqT.of zb,nofun,by rw [kj];show as.length+1≤_;rw [sizeLine_eq];lia,fun z=>?_,fun z p3 hp3=>?_⟩
  ·have za:as=[]:=by simpa using z
   subst za
   cases hgs
   exact q p2 _ s12 ⟨[p],SqT.of zb,.cons hp' .nil⟩
  ·have s3:=zh hp3 (.tup (as.map V.ref++[.ref p]))
   exact q p3 _ (s12.trans s3) ⟨as++[p],SqT.of (by rw [kL];exact zb),((hgs.same s12).same s3).append (.cons (s3 _ _ hp') .nil)⟩
 ·have e:¬more=1:=fun z=>c (by rw [z];rfl)
  rw [kz e] at q
  refine ⟨_,rfl,1,rfl,rfl,_,rfl,?_⟩
  refine ite2 (fun c2=>?_) (fun c2=>?_)
  ·have e2:more= -1:=by have:=kE c2;injection this
   rw [kC e2] at q
   have hne:as.map V.ref≠[]:=fun z=>h2 e2 (by
    have za:as=[]:=by simpa using z
    rw [za] at hal
    exact List.length_eq_zero_iff.mp hal.symm)
   obtain ⟨k1,k2⟩:=z5h (α:=V) _ hne
   refine ⟨_,rfl,1,rfl,-1,rfl,g,_,rfl,hga,k2,fun p hp=>?_⟩
   rw [k1]
   have s1:=zh hp (.tup (as.map V.ref).dropLast)
   refine q p _ s1 ⟨as.dropLast,SqT.of (by rw [List.map_dropLast];exact zb),(hgs.dropLast).same s1⟩
  ·have e2:¬more= -1:=fun z=>c2 (by rw [z];rfl)
   rw [kz e2] at q
   exact ⟨_,rfl,q g H (Same.refl _) ⟨as,hga,hgs⟩⟩
end
noncomputable def isT:HO→Bool
 | .tup _=>true
 | .frz _ _=>true
 | _=>false
def qr (H H':Hp):Prop:=∀b o,H b=some o→isT o=true→H' b=some o
theorem qr.trans {H H1 H2:Hp} (a:qr H H1) (b:qr H1 H2):qr H H2:=fun c o h t=>b c o (a c o h t) t
theorem qr.of {H H':Hp} (s:Same H H'):qr H H':=fun b o h _=>s b o h
theorem qr.upd {H:Hp} {l:Addr} {o u:HO} (h:H l=some u) (hu:isT u=false):qr H (upd H l o):=fun b x e t=>by
 rw [zf (fun z=>by rw [z,h] at e;cases e;rw [hu] at t;cases t)];exact e
theorem je {K:ky} {H H':Hp} {a:Addr} {xs:List V} (s:qr H H') (h:SqT K H a xs):SqT K H' a xs:=by
 rcases h with (h | ⟨o,h⟩) | h
 ·exact .inl (.inl (s _ _ h rfl))
 ·exact .inl (.inr ⟨o,s _ _ h rfl⟩)
 ·exact .inr h
theorem GsIn.keep {H H':Hp} {as:List Addr} {gs:List Gd} (h:GsIn H as gs) (s:qr H H'):GsIn H' as gs:=Paired.mapP h fun _ _ e=>s _ _ e rfl
theorem GsAt.keep {K:ky} {H H':Hp} {g:Addr} {gs:List Gd} (h:GsAt K H g gs) (s:qr H H'):GsAt K H' g gs:=let ⟨as,h1,h2⟩:=h;⟨as,je s h1,h2.keep s⟩
theorem StA.keep {K:ky} {H H':Hp} {a:Addr} {st:Sta} (h:StA K H a st) (s:qr H H'):StA K H' a st:=let ⟨g,h1,h2⟩:=h;⟨g,je s h1,h2.keep s⟩
abbrev NxIn (K:ky) (H:Hp):List Addr→List (V × Sta)→Prop:=Paired fun t n=>∃a,H t=some (.tup [n.1,.ref a])∧StA K H a n.2
theorem NxIn.keep {K:ky} {H H':Hp} {ts:List Addr} {ns:List (V × Sta)} (h:NxIn K H ts ns) (s:qr H H'):NxIn K H' ts ns:=Paired.mapP h fun _ _ z=>z.elim fun a q=>⟨a,s _ _ q.1 rfl,q.2.keep s⟩
theorem NxIn.append {K:ky} {H:Hp} {as bs:List Addr} {gs hs:List (V × Sta)} (h:NxIn K H as gs) (k:NxIn K H bs hs):NxIn K H (as++bs) (gs++hs):=z1C h k
theorem NxIn.get {K:ky} {H:Hp} {as:List Addr} {rs:List (V × Sta)} {i:Nat} {x:V} (h:NxIn K H as rs) (e:(as.map V.ref)[i]?=some x):∃t n a,x=.ref t∧rs[i]?=some n∧H t=some (.tup [n.1,.ref a])∧StA K H a n.2:=by
 obtain ⟨t,n,h1,h2,a,h3⟩:=z34 h e
 exact ⟨t,n,a,h1,h2,h3⟩
noncomputable def Ql (rs:List Row) (place:Nat) (r:Row) (st:Sta):List (V × Sta):=(j8 rs place r st.1 st.2.getLast?).map fun m=>(m.1,(m.2.1,zW r st.1 st.2 m.2.2))
theorem z4K {x:Str} (h:tabI zU x=1):x="try":=by
 unfold tabI at h
 cases e:zU.lookup x with
 | none=>rw [e] at h;cases h
 | some v=>
  have hm:=PySem.mem_of_lookup e
  rw [e] at h
  simp only [zU,kF,Prod.mk.injEq,kq,or_false] at hm
  rcases hm with ⟨z,_⟩ | ⟨_,z⟩
  ·exact z
  ·rw [z] at h;cases h
theorem z4L {x:Str} (h:tabI zU x= -1):x="endtry":=by
 unfold tabI at h
 cases e:zU.lookup x with
 | none=>rw [e] at h;cases h
 | some v=>
  have hm:=PySem.mem_of_lookup e
  rw [e] at h
  simp only [zU,kF,Prod.mk.injEq,kq,or_false] at hm
  rcases hm with ⟨_,z⟩ | ⟨z,_⟩
  ·rw [z] at h;cases h
  ·exact z
theorem z2i {rs:List Row} {place:Nat} {r:Row} {d:Int} {gs:List Gd} (hok:jV r):∀m∈j8 rs place r d gs.getLast?,(m.2.2=1→∃k,r.arg=.int k)∧(m.2.2= -1→gs≠[]):=by
 intro m hm
 unfold j8 at hm
 split at hm
 ·cases hm
 ·split at hm
  ·cases hm
  ·rename_i _ hG
   rcases kW.mp hm with hm | hm
   ·rcases kW.mp hm with hm | hm
    ·unfold mv1 at hm
     split at hm
     ·cases hm
     ·rw [ko.mp hm]
      refine ⟨fun h=>?_,fun h=>?_⟩
      ·have e:=z4K h
       obtain ⟨s,hs,hfit,_⟩:=hok.parts
       rw [e,show qa "try"=some ("mark":Str) by trivial] at hs
       cases hs
       obtain ⟨k,hk,_⟩:=ZK hfit
       exact ⟨k,hk⟩
      ·have e:=z4L h
       intro z
       subst z
       exact hG (by unfold Zp;rw [e];decide)
    ·unfold mv2 at hm
     split at hm
     ·rw [ko.mp hm]
      exact ⟨fun h=>absurd (show (0:Int)=1 from h) (by decide),fun h=>absurd (show (0:Int)= -1 from h) (by decide)⟩
     ·cases hm
   ·unfold mv3 at hm
    split at hm
    ·cases e:gs.getLast? with
     | none=>rw [e] at hm;cases hm
     | some g=>
      rw [e] at hm
      rw [ko.mp hm]
      refine ⟨fun h=>absurd (show (-1:Int)=1 from h) (by decide),fun _ z=>?_⟩
      subst z
      cases e
    ·cases hm
theorem z4G {X:Cx} {K:ky} (hK:X.K=K):IxR X (rIxL K):=by subst hK;exact zL
theorem z0o (rs:List Row) (place:Nat) (r:Row) (d:Int) (og:Option Gd):(j8 rs place r d og).length≤3:=by
 unfold j8 mv1 mv2 mv3
 repeat' split
 all_goals simp
theorem nd52:N52.Nodup:=by trivial
section
theorem GsAt.guardV {H:Hp} {g:Addr} {gs:List Gd} (h:GsAt K H g gs):∃as:List Addr,SqT K H g (as.map V.ref)∧((as=[]∧Zb H .non gs.getLast?)∨∃bs a,as=bs++[a]∧Zb H (.ref a) gs.getLast?):=by
 obtain ⟨as,h1,h2⟩:=h
 refine ⟨as,h1,?_⟩
 rcases h2.last with ⟨e1,e2⟩ | ⟨bs,a,g',e1,e2,e3⟩
 ·exact .inl ⟨e1,by rw [e2];rfl⟩
 ·exact .inr ⟨bs,a,e1,by rw [e2];exact ⟨a,rfl,e3⟩⟩
def z64 (K:ky):Sp:=fun vs H Q _=>∃(g:Addr) (gs:List Gd),vs=[.ref g]∧GsAt K H g gs∧∀gv,Zb H gv gs.getLast?→Q gv H
theorem up2 (F:FN P w K mg base 1 "uppermost" ["guards"] (spUp K)):FN P w K mg base 1 "uppermost" ["guards"] (z64 K):=F.imp fun vs H Q E ⟨g,gs,e,h,q⟩=>by
 obtain ⟨as,h1,h2⟩:=h.guardV
 refine ⟨g,as,e,h1,?_⟩
 rcases h2 with ⟨a,b⟩ | ⟨bs,a,e1,b⟩
 ·exact .inl ⟨a,q _ b⟩
 ·exact .inr ⟨bs,a,e1,q _ b⟩
def z1u (K:ky):Sp:=fun vs H Q _=>∃l d place sa st rs r,vs=[.ref l,.ref d,.int (place:Nat),.ref sa]∧z0Q K H l d rs∧rs[place]?=some r∧StA K H sa st∧st.2.length≤1000∧
 ∀f ts H',Same H H'→H f=none→H' f=some (.lst (ts.map V.ref))→NxIn K H' ts (Ql rs place r st)→Q (.ref f) H'
def NxW (K:ky) (l:Addr) (place:Nat) (sa:Addr) (r:Row) (st:Sta) (ms:List Mv) (H1:Hp) (nl:Addr) (i:Nat) (ys:List V) (σ:L2.St) (H2:Hp):Prop:=(∃a b c,σ=[a,b,c,some (.ref l),some (.int (place:Nat)),some (.ref sa)])∧∃us:List Addr,ys=us.map V.ref∧NxIn K H2 us ((ms.take i).map fun m=>(m.1,(m.2.1,zW r st.1 st.2 m.2.2)))∧Same H1 H2∧H2 nl=some (.lst ys)
theorem z6S (D:zo K mg "next_states" (top 52)) (FU:FN P w K mg base 1 "uppermost" ["guards"] (z64 K)) (FM:FN P w K mg base 3 "moves" ["code","labels","place","depth","guard"] (z0X K)) (FB:FN P w K mg base 1 "guards_behind" ["row","state","more"] (spGb K)):
  FN P w K mg base 4 "next_states" ["code","labels","place","state"] (z1u K):=by
 refine FN.o D sc52 fun f cdv A outer s H vs Q E hr h=>?_
 obtain ⟨l,d,place,sa,st,rs,r,rfl,hC,hrp,⟨g,hsa,hgs⟩,hz,q⟩:=h
 have hr1:=hr.mono (show 1≤3 by decide)
 refine ⟨_,z8 (j6 (pv 3) (jg rfl (zt (zB (i:=4) sc52.nd rfl (Or.inl rfl)) (zt (zB (i:=5) sc52.nd rfl (Or.inl rfl)) qy))))
  (zc (zm (z4v (N:=N52) (nt:=3) (ix:=[0,2,3]) (cl:=cl52 s.heap.objs.size) rfl cs52 (z18 (zp FM hr rfl (z6 (pv 0) (z6 (pv 1) (z6 (pv 2) (z6 (pv 4) (z6 (zp FU hr1 rfl (z6 (pv 5) z7)) z7)))))))
   (fun _ _ _ _=>Jw (K:=K) (n:=3) rfl rfl (zt (zB (i:=0) nd52 rfl (Or.inl rfl)) (zt (zB (i:=1) nd52 rfl (Or.inl rfl)) (zt (zB (i:=2) nd52 rfl (Or.inl rfl)) qy))))
   (fun _ _ _ _=>z14)
   (fun _ _ _ _=>zE (z6 (pv 0) (z6 (zE (z6 (pv 1) (z6 (zp FB hr1 rfl (z6 (zP (z4G (K:=K) rfl) (pv 3) (pv 4) (fun _ _=>rfl)) (z6 (pv 5) (z6 (pv 2) z7)))) z7))) z7)))))),?_⟩
 try dsimp only [L2.cxOf,L2.Cx.nox]
 refine ⟨_,rfl,sa,_,rfl,hsa,rfl,_,_,rfl,_,_,rfl,rfl,?_⟩
 refine ⟨_,rfl,_,rfl,_,rfl,_,rfl,_,rfl,g,st.2,rfl,hgs,fun gv hgv=>?_⟩
 refine ⟨l,d,place,st.1,gv,_,rs,r,rfl,hC,hrp,hgv,fun ml ts H1 s1 hn1 hm1 hM1=>?_⟩
 obtain ⟨⟨as,hS,hR⟩,hc,_⟩:=id hC
 have hro:=hc.ok r (kI hrp)
 have hmm:=z2i (rs:=rs) (place:=place) (d:=st.1) (gs:=st.2) hro
 have hlen:=z0o rs place r st.1 st.2.getLast?
 unfold Ql at q
 generalize hms:j8 rs place r st.1 st.2.getLast?=ms at hM1 hmm hlen q
 refine ⟨ml,rfl,⟨_,SqL.of hm1⟩,fun nl hnl=>Jh (K:=K) (a:=ml) (xs:=ts.map V.ref) (NxW K l place sa r st ms H1 nl)
  ⟨⟨none,none,none,rfl⟩,[],rfl,.nil,zh hnl _,zb⟩ (fun i ys σ H2 _ zz=>by obtain ⟨_,_,_,_,s2,_⟩:=zz;exact s2.seq (SqL.of hm1)) ?_ ?_⟩
 ·rintro i x ys σ H2 hi ⟨⟨a,b,c,rfl⟩,us,rfl,hN,s2,hp2⟩
  obtain ⟨t,m,rfl,hm,ht⟩:=(hM1.same fun a xs e=>s2 _ _ e).get hi
  have hil:i < ts.length:=by have:=(kf.mp hi).1;simpa using this
  have hml:ts.length=ms.length:=Paired.length hM1
  have hul:us.length=(ms.take i).length:=by have:=Paired.length hN;simpa using this
  have sH:=s1.trans s2
  obtain ⟨ra,hra,har⟩:=hR.get' hrp
  obtain ⟨mm1,mm2⟩:=hmm m (kI hm)
  refine ⟨t,_,rfl,SqT.of ht,rfl,_,_,rfl,_,_,rfl,_,_,rfl,rfl,?_⟩
  refine z0S ⟨_,rfl,_,rfl,_,rfl,_,rfl,l,_,_,_,rfl,rfl,sH.seq hS,zq hra,_,rfl,_,rfl,ra,sa,r,st.1,g,st.2,m.2.2,rfl,sH _ _ har,jd sH hsa,hgs.same sH,hz,mm1,mm2,fun g' H3 s3 hg'=>?_⟩
  refine ⟨by show 2≤sizeLine;decide,fun p1 hp1=>⟨by show 2≤sizeLine;decide,fun p2 hp2'=>?_⟩⟩
  have t1:=zh hp1 (.tup [.int m.2.1,.ref g'])
  have t2:=zh hp2' (.tup [m.1,.ref p1])
  have t12:=t1.trans t2
  have sE:=s3.trans t12
  have hnl5:=sE _ _ hp2
  refine ⟨hnl5,?_,_,by rw [kj];lia,rfl,by rw [kj];lia,⟨_,_,_,rfl⟩,us++[p2],by rw [kL];rfl,?_,?_,zb⟩
  ·rw [kj,hul,List.length_take]
   exact qJ (by lia)
  ·rw [Zz hm,kL]
   have kT:=qr.upd (o:=.lst (us.map V.ref++[.ref p2])) hnl5 rfl
   refine NxIn.append ((hN.keep (qr.of sE)).keep kT) (.cons ⟨p1,kT _ _ zb rfl,StA.keep ⟨g',SqT.of (t2 _ _ zb),hg'.same t12⟩ kT⟩ .nil)
  ·exact fun b o e=>by rw [zf (ze e hnl)];exact sE _ _ (s2 _ _ e)
 ·rintro ys σ H2 ⟨_,us,rfl,hN,s2,hp2⟩
  have hml:ts.length=ms.length:=Paired.length hM1
  rw [kj,hml,List.take_length] at hN
  exact q nl us H2 (s1.trans s2) (s1.free hnl) hp2 hN
def spSw (K:ky):Sp:=fun vs H Q _=>∃l d place sa st rs r,vs=[.ref l,.ref d,.int (place:Nat),.ref sa]∧z0Q K H l d rs∧rs[place]?=some r∧StA K H sa st∧
 ∀f H',Same H H'→H f=none→H' f=some (.lst ((Zy rs place r st.1 st.2.getLast?).map V.str))→Q (.ref f) H'
theorem sc53:zj ["code","labels","place","state"] ["code","labels","place","state"] (zd (top 53)):=fsM
theorem z9H (D:zo K mg "state_words" (top 53)) (FU:FN P w K mg base 1 "uppermost" ["guards"] (z64 K)) (FW:FN P w K mg base 4 "words_lacking" ["code","labels","place","depth","guard"] (z2K K)):FN P w K mg base 5 "state_words" ["code","labels","place","state"] (spSw K):=by
 refine FN.o D sc53 fun f cdv A outer s H vs Q E hr h=>?_
 obtain ⟨l,d,place,sa,st,rs,r,rfl,hC,hrp,⟨g,hsa,hgs⟩,q⟩:=h
 refine ⟨_,zc (zm (zp FW hr rfl (z6 (pv 0) (z6 (pv 1) (z6 (pv 2) (z6 (zP qo (pv 3) zg (fun _ _=>rfl)) (z6 (zp FU (hr.mono (by decide)) rfl (z6 (zP qo (pv 3) zg (fun _ _=>rfl)) z7)) z7))))))),?_⟩
 try dsimp only [L2.cxOf,L2.Cx.nox]
 refine ⟨_,rfl,_,rfl,_,rfl,_,rfl,sa,_,_,_,rfl,rfl,hsa,zq (j:=0) rfl,_,rfl,sa,_,_,_,rfl,rfl,hsa,zq (j:=1) rfl,g,st.2,rfl,hgs,fun gv hgv=>?_⟩
 exact ⟨l,d,place,st.1,gv,_,rs,r,rfl,hC,hrp,hgv,q⟩
end
abbrev Fnd:=List (Option Sta)
noncomputable def J0:List (V × Sta)→Fnd→List Nat→Option (Fnd × List Nat)
 | [],f,w=>some (f,w)
 | (x,s) :: r,f,w=>match x with
  | .int j=>if 0≤j then (match f[j.toNat]? with
   | some none=>J0 r (f.set j.toNat (some s)) (w++[j.toNat])
   | some (some s')=>if s'=s then J0 r f w else none
   | none=>none) else none
  | _=>none
noncomputable def bfs (rs:List Row):Nat→Fnd→List Nat→Option Fnd
 | _,f,[]=>some f
 | 0,_,_ :: _=>none
 | n+1,f,p :: w=>match rs[p]?,f[p]? with
  | some r,some (some s)=>if (Zy rs p r s.1 s.2.getLast?).isEmpty=true∧s.2.length≤1000 then (match J0 (Ql rs p r s) f w with
   | some (f',w')=>bfs rs n f' w'
   | none=>none) else none
  | _,_=>none
noncomputable def Q1 (rs:List Row):Option Fnd:=bfs rs 300 ((List.replicate rs.length none).set 0 (some (0,[]))) [0]
abbrev qP (K:ky) (H:Hp):List V→Fnd→Prop:=Paired fun x o=>match o with
 | none=>x=.non
 | some st=>∃a,x=.ref a∧StA K H a st
theorem qP.keep {K:ky} {H H':Hp} {xs:List V} {os:Fnd} (h:qP K H xs os) (s:qr H H'):qP K H' xs os:=Paired.mapP h fun _ o z=>by
 cases o with
 | none=>exact z
 | some st=>
  obtain ⟨a,h1,h2⟩:=z
  exact ⟨a,h1,h2.keep s⟩
theorem qP.get {K:ky} {H:Hp} {xs:List V} {os:Fnd} {j:Nat} {o:Option Sta} (h:qP K H xs os):os[j]?=some o→∃x,xs[j]?=some x∧(match o with | none=>x=.non | some st=>∃a,x=.ref a∧StA K H a st):=z7V h
theorem qP.set {K:ky} {H:Hp} {a:Addr} {st:Sta} (hs:StA K H a st):∀{xs:List V} {os:Fnd} (j:Nat),qP K H xs os→qP K H (xs.set j (.ref a)) (os.set j (some st))
 | _,_,_,.nil=>.nil
 | _,_,0,.cons _ t=>.cons ⟨a,rfl,hs⟩ t
 | _,_,j+1,.cons h t=>.cons h (qP.set hs j t)
theorem Jd (K:ky) (H:Hp):∀n:Nat,qP K H (List.replicate n V.non) (List.replicate n none)
 | 0=>.nil
 | n+1=>.cons rfl (Jd K H n)
def z1q (H:Hp) (kvs:List (Key × V)) (f:Fnd) (B:Nat):Prop:=∀(p:Nat) st,f[p]?=some (some st)→∃t ns,valV kvs (Sum.inl (p:Int):Key)=some (.ref t)∧H t=some (.tup ns)∧ns≠[]∧ns.length≤B
theorem z1q.keep {H H':Hp} {kvs:List (Key × V)} {f:Fnd} {B:Nat} (h:z1q H kvs f B) (s:qr H H'):z1q H' kvs f B:=fun p st e=>let ⟨t,ns,h1,h2,h3⟩:=h p st e;⟨t,ns,h1,s _ _ h2 rfl,h3⟩
theorem z1q.mono {H:Hp} {kvs:List (Key × V)} {f:Fnd} {B B':Nat} (h:z1q H kvs f B) (hb:B≤B'):z1q H kvs f B':=fun p st e=>let ⟨t,ns,h1,h2,h3,h4⟩:=h p st e;⟨t,ns,h1,h2,h3,ku h4 hb⟩
structure Srch (K:ky) (H0 H:Hp) (d fl wd wl:Addr) (rs:List Row) (f:Fnd) (w:List Nat) (B C:Nat):Prop where
 same:Same H0 H
 labs:∃kvs,H d=some (.dK kvs)∧jI kvs rs
 nf:H0 fl=none
 nw:H0 wd=none
 nl:H0 wl=none
 fnd:∃fvs,H fl=some (.lst fvs)∧qP K H fvs f
 wks:∃kvs,H wd=some (.dK kvs)∧z1q H kvs f B∧kvs.length≤C
 wts:H wl=some (.lst (w.map fun p=>V.int (p:Nat)))
 wlen:w.length≤C
 flen:f.length=rs.length
 nd:d≠wd
 nfw:fl≠wl
theorem Srch.same' {K:ky} {H0 H H':Hp} {d fl wd wl:Addr} {rs:List Row} {f:Fnd} {w:List Nat} {B C:Nat} (h:Srch K H0 H d fl wd wl rs f w B C) (s:Same H H'):Srch K H0 H' d fl wd wl rs f w B C:=by
 obtain ⟨a1,⟨kv,b1,b2⟩,a3,a4,a5,⟨fvs,a6,a7⟩,⟨kvs,a8,a9,a10⟩,a11,a12,a13,a14,a15⟩:=h
 have kt:=qr.of s
 exact ⟨a1.trans s,⟨kv,s _ _ b1,b2⟩,a3,a4,a5,⟨fvs,s _ _ a6,a7.keep kt⟩,⟨kvs,s _ _ a8,a9.keep kt,a10⟩,s _ _ a11,a12,a13,a14,a15⟩
theorem Srch.more {K:ky} {H0 H:Hp} {d fl wd wl:Addr} {rs:List Row} {f:Fnd} {w:List Nat} {B B' C C':Nat} (h:Srch K H0 H d fl wd wl rs f w B C) (hb:B≤B') (hc:C≤C'):Srch K H0 H d fl wd wl rs f w B' C':=by
 obtain ⟨a1,a2,a3,a4,a5,a6,⟨kvs,a8,a9,a10⟩,a11,a12,a13,a14,a15⟩:=h
 exact ⟨a1,a2,a3,a4,a5,a6,⟨kvs,a8,a9.mono hb,by lia⟩,a11,by lia,a13,a14,a15⟩
theorem Srch.code {K:ky} {H0 H:Hp} {l d fl wd wl:Addr} {as:List Addr} {rs:List Row} {f:Fnd} {w:List Nat} {B C:Nat} (h:Srch K H0 H d fl wd wl rs f w B C) (hS:SqL K H0 l (as.map V.ref)) (hR:zS H0 as rs) (hc:Code rs):z0Q K H l d rs:=
 ⟨⟨as,h.same.seq hS,hR.same h.same⟩,hc,h.labs⟩
theorem Srch.pop {K:ky} {H0 H:Hp} {d fl wd wl:Addr} {rs:List Row} {f:Fnd} {p:Nat} {w:List Nat} {B C:Nat} (h:Srch K H0 H d fl wd wl rs f (p :: w) B C):Srch K H0 (upd H wl (.lst (w.map fun p=>V.int (p:Nat)))) d fl wd wl rs f w B C:=by
 obtain ⟨a1,⟨kv,b1,b2⟩,a3,a4,a5,⟨fvs,a6,a7⟩,⟨kvs,a8,a9,a10⟩,a11,a12,a13,a14,a15⟩:=h
 have kt:=qr.upd (o:=.lst (w.map fun p=>V.int (p:Nat))) a11 rfl
 exact ⟨fun b o e=>by rw [zf (ze e a5)];exact a1 _ _ e,⟨kv,by rw [zf (zC b1 a11 nofun)];exact b1,b2⟩,a3,a4,a5,⟨fvs,by rw [zf a15];exact a6,a7.keep kt⟩,
  ⟨kvs,by rw [zf (zC a8 a11 nofun)];exact a8,a9.keep kt,a10⟩,zb,by simp at a12;lia,a13,a14,a15⟩
theorem Srch.put {K:ky} {H0 H:Hp} {d fl wd wl:Addr} {rs:List Row} {f:Fnd} {w:List Nat} {B C:Nat} (h:Srch K H0 H d fl wd wl rs f w B C) {j:Nat} {a t:Addr} {st:Sta} {ns fvs:List V} {kvs:List (Key × V)} (hf:H fl=some (.lst fvs)) (hw:H wd=some (.dK kvs))
  (hs:StA K H a st) (ht:H t=some (.tup ns)) (hn:ns≠[]) (hl:ns.length≤B) (hj:f[j]?=some none):
  Srch K H0 (upd (upd (upd H fl (.lst (fvs.set j (.ref a)))) wd (.dK (putK kvs (Sum.inl (j:Int)) (.ref t)))) wl (.lst ((w.map fun p=>V.int (p:Nat))++[V.int (j:Nat)]))) d fl wd wl rs (f.set j (some st)) (w++[j]) B (C+1):=by
 obtain ⟨a1,⟨kv,b1,b2⟩,a3,a4,a5,⟨fvs',a6,a7⟩,⟨kvs',a8,a9,a10⟩,a11,a12,a13,a14,a15⟩:=h
 rw [hf] at a6
 cases a6
 rw [hw] at a8
 cases a8
 have nwf:wd≠fl:=zC hw hf nofun
 have nwl:wd≠wl:=zC hw a11 nofun
 have k1:=qr.upd (o:=.lst (fvs.set j (.ref a))) hf rfl
 have e2:(upd H fl (.lst (fvs.set j (.ref a)))) wd=some (.dK kvs):=by rw [zf nwf];exact hw
 have k2:=k1.trans (qr.upd (o:=.dK (putK kvs (Sum.inl (j:Int)) (.ref t))) e2 rfl)
 have e3:(upd (upd H fl (.lst (fvs.set j (.ref a)))) wd (.dK (putK kvs (Sum.inl (j:Int)) (.ref t)))) wl=some (.lst (w.map fun p=>V.int (p:Nat))):=by rw [zf nwl.symm,zf a15.symm];exact a11
 have k3:=k2.trans (qr.upd (o:=.lst ((w.map fun p=>V.int (p:Nat))++[V.int (j:Nat)])) e3 rfl)
 refine ⟨fun b o e=>by rw [zf (ze e a5),zf (ze e a4),zf (ze e a3)];exact a1 _ _ e,⟨kv,by rw [zf (zC b1 a11 nofun),zf a14,zf (zC b1 hf nofun)];exact b1,b2⟩,a3,a4,a5,
  ⟨_,by rw [zf a15,zf nwf.symm];exact zb,(a7.set hs j).keep k3⟩,⟨_,by rw [zf nwl];exact zb,fun p st' e=>?_,?_⟩,?_,by simp;lia,by simp [a13],a14,a15⟩
 ·rw [Qn]
  by_cases z:p=j
  ·subst z
   rw [kC rfl]
   exact ⟨t,ns,rfl,k3 _ _ ht rfl,hn,hl⟩
  ·rw [kz (fun y=>z (by injection y with y;lia))]
   rw [List.getElem?_set,kz (fun y=>z y.symm)] at e
   obtain ⟨t',ns',h1,h2,h3⟩:=a9 p st' e
   exact ⟨t',ns',h1,k3 _ _ h2 rfl,h3⟩
 ·have:=qS kvs (Sum.inl (j:Int):Key) (V.ref t)
  lia
 ·rw [zb,kL]
  rfl
section
def J4 (K:ky):Sp:=fun vs H Q _=>∃l as rs fin,vs=[.ref l]∧SqL K H l (as.map V.ref)∧zS H as rs∧Code rs∧Q1 rs=some fin∧
 ∀t fl fvs H',Same H H'→H t=none→H fl=none→H' t=some (.tup [.ref fl,.non])→H' fl=some (.lst fvs)→qP K H' fvs fin→Q (.ref t) H'
theorem sc54:zj ["code","labels","found","walks","waiting","place","words","goal","state","walk"] ["code"] (zd (top 54)):=fsM
theorem pop0 {xs:List V} {y:V} {ys:List V} (h:xs=y :: ys):seqIndex? 0 xs.length=some 0∧xs[0]?=some y∧xs.eraseIdx 0=ys:=by
 subst h
 refine ⟨?_,rfl,rfl⟩
 unfold seqIndex?
 simp
noncomputable def st54:Stmt:=match (zN (top 54)).getD 5 (.Pass ⟨0,0,0,0⟩) with
 | .While _ b _ _=>b.getD 3 (.Pass ⟨0,0,0,0⟩)
 | s=>s
noncomputable abbrev N54:List Str:=["code","labels","found","walks","waiting","place","words","goal","state","walk"]
def z7Q (K:ky) (H:Hp) (l:Addr) (rs:List Row):TS:=fun D σ H3=>∃(d fl wd wl:Addr) (p:Nat) (r:Row) (st:Sta) (n:Nat) (v6 v7 v8 v9:Option V) (fo:Fnd) (wa:List Nat) (foE:Fnd) (waE:List Nat),
 σ=[some (.ref l),some (.ref d),some (.ref fl),some (.ref wd),some (.ref wl),some (.int (p:Nat)),v6,v7,v8,v9]∧n≤299∧rs[p]?=some r∧fo[p]?=some (some st)∧st.2.length≤1000∧J0 (Ql rs p r st) fo wa=some (foE,waE)∧
 Srch K H H3 d fl wd wl rs fo wa (300 - n) (3 * (300 - n))∧∀σ' H',(∃v5 v6 v7 v8 v9,σ'=[some (.ref l),some (.ref d),some (.ref fl),some (.ref wd),some (.ref wl),v5,v6,v7,v8,v9])→Srch K H H' d fl wd wl rs foE waE (301 - n) (3 * (301 - n))→D.nx σ' H'
theorem z3P {α:Type} {l:List α} {i:Nat} {x:α} (h:l[i]?=some x):l.drop i=x :: l.drop (i+1):=by
 obtain ⟨hi,e⟩:=kf.mp h
 rw [←e]
 exact List.drop_eq_getElem_cons hi
def F54 (K:ky) (H:Hp) (l d fl wd wl:Addr) (p:Nat) (v6:Option V) (rs:List Row) (ns:List (V × Sta)) (foE:Fnd) (waE:List Nat) (st:Sta) (n:Nat) (tp:Addr) (np:List V) (nl:Addr) (ts:List Addr) (i:Nat) (σ:L2.St) (H':Hp):Prop:=∃v7 v8 v9 fo' wa',σ=[some (.ref l),some (.ref d),some (.ref fl),some (.ref wd),some (.ref wl),some (.int (p:Nat)),v6,v7,v8,v9]∧i≤3∧J0 (ns.drop i) fo' wa'=some (foE,waE)∧fo'[p]?=some (some st)∧Srch K H H' d fl wd wl rs fo' wa' (301 - n) (3 * (300 - n)+i)∧(∃kvs,H' wd=some (.dK kvs)∧valV kvs (Sum.inl (p:Int):Key)=some (.ref tp))∧H' tp=some (.tup np)∧H' nl=some (.lst (ts.map V.ref))∧NxIn K H' ts ns
theorem z9E {f:Addr} {cdv:Value} {A:Around} {outer:List Env} {s:Shared} {H:Hp} {E:XK} {l:Addr} {as:List Addr} {rs:List Row} (hr:Room 7 (A.deeper (envOfC "searched" (zd (top 54)) s.heap.objs.size f cdv)))
  (hS:SqL K H l (as.map V.ref)) (hR:zS H as rs) (hc:Code rs) (FN':FN P w K mg base 4 "next_states" ["code","labels","place","state"] (z1u K)):
  PS (cxOf CX0 P w K mg base N54 "searched" (zd (top 54)) f cdv A outer s H E).nox st54 (z7Q K H l rs):=by
 have hu:=Zq hr
 have hu3:(A.deeper (envOfC "searched" (zd (top 54)) s.heap.objs.size f cdv)).units+3 < cLine:=by have:=hr.un;lia
 have hr4:=hr.mono (show 4≤7 by decide)
 refine PS.imp (ZE PassesOwn.never rfl (z18 (zp FN' hr4 rfl (z6 (pv 0) (z6 (pv 1) (z6 (pv 5) (z6 (zP zL (pv 2) (pv 5) (fun _ _=>rfl)) z7))))))
    (jg rfl (zt (zB (i:=7) sc54.nd rfl (Or.inl rfl)) (zt (zB (i:=8) sc54.nd rfl (Or.inl rfl)) qy)))
    (z8 (zA (i:=9) sc54.nd rfl (Or.inl rfl) (zJ z3e (jz hu (pv 3) (pv 5) (fun _ _=>rfl)) (zE (z6 (pv 7) z7))))
    (zc (zD (zl QE (zP zL (pv 2) (pv 7) (fun _ _=>rfl)) qc (zn _))
     (z8 (j6 (pv 8) (Qb (pv 2) (pv 7) jE)) (z8 (QA hu (pv 3) (pv 7) (pv 9) rfl) (zc (zk (qO (pv 4) (z6 (pv 7) z7))))))
     (zc (zD (zl (z6q hu3) (zP zL (pv 2) (pv 7) (fun _ _=>rfl)) (pv 8) (zn _)) qZ zu)))))) ?_
 rintro D σ H3 ⟨d,fl,wd,wl,p,r,st,n,v6,v7,v8,v9,fo,wa,foE,waE,rfl,hn,hrp,hfp,hz,hrel,S,k⟩
 obtain ⟨fvs,hfl2,hF⟩:=S.fnd
 obtain ⟨x,hx,hx2⟩:=hF.get hfp
 obtain ⟨sa,rfl,hsa⟩:=hx2
 refine ⟨_,rfl,_,rfl,_,rfl,_,rfl,_,rfl,fl,_,_,_,rfl,rfl,SqL.of hfl2,zq hx,l,d,p,sa,st,rs,r,rfl,S.code hS hR hc,hrp,hsa,hz,fun nl ts H4 s4 hn4 hnl4 hN4=>?_⟩
 have hnlen:(Ql rs p r st).length≤3:=by unfold Ql;rw [kj];exact z0o ..
 generalize Ql rs p r st=ns at hrel hN4 hnlen
 have hts:ts.length=ns.length:=Paired.length hN4
 have S4:=S.same' s4
 obtain ⟨kvs,hwd,hW,hkl⟩:=S4.wks
 obtain ⟨tp,np,ht1,ht2,ht3,ht4⟩:=hW p st hfp
 refine ⟨nl,rfl,⟨_,SqL.of hnl4⟩,z4O (K:=K) (a:=nl) (xs:=ts.map V.ref) (F54 K H l d fl wd wl p v6 rs ns foE waE st n tp np nl ts)
  ⟨v7,v8,v9,fo,wa,rfl,by decide,hrel,hfp,S4.more (by lia) (by lia),⟨kvs,hwd,ht1⟩,ht2,hnl4,hN4⟩ (fun i σ H' _ zz=>by obtain ⟨_,_,_,_,_,_,_,_,_,_,_,_,h,_⟩:=zz;exact SqL.of h) ?_ ?_⟩
 ·rintro i x σ H' hi ⟨v7,v8,v9,fo',wa',rfl,hi3,hrel',hfp',S',⟨kvs',hwd',hv'⟩,htp',hnl',hN'⟩
  obtain ⟨t,nx,a,rfl,hnx,ht,hst⟩:=hN'.get hi
  have hil:i < ts.length:=by have:=(kf.mp hi).1;simpa using this
  rw [z3P hnx] at hrel'
  obtain ⟨goal,st'⟩:=nx
  refine ⟨t,_,rfl,SqT.of ht,rfl,_,_,rfl,_,_,rfl,rfl,?_⟩
  have hgd:DGet H' wd (.int (p:Nat)) (some (.ref tp)):=by rw [←hv'];exact DGet.k (k:=Sum.inl (p:Int)) hwd'
  refine ⟨_,rfl,_,rfl,wd,_,rfl,hgd,_,rfl,by show 1≤sizeLine;decide,fun p2 hp2=>?_⟩
  have t2:=zh hp2 (.tup [goal])
  refine ⟨tp,p2,np,[goal],rfl,rfl,SqT.of (t2 _ _ htp'),SqT.of zb,ht3,by rw [sizeLine_eq];show np.length+1≤_;lia,nofun,fun _ p3 hp3=>?_⟩
  have t3:=zh hp3 (.tup (np++[goal]))
  have t23:=t2.trans t3
  have S2:=S'.same' t23
  have hwd2:=t23 _ _ hwd'
  have hnl2:=t23 _ _ hnl'
  have hN2:=hN'.keep (qr.of t23)
  have hst2:=hst.same t23
  have htp2:=t23 _ _ htp'
  have hp33:(upd (upd H' p2 (.tup [goal])) p3 (.tup (np++[goal]))) p3=some (.tup (np++[goal])):=zb
  generalize upd (upd H' p2 (.tup [goal])) p3 (.tup (np++[goal]))=H5 at *
  obtain ⟨fv,hfl5,hF5⟩:=S2.fnd
  unfold J0 at hrel'
  cases goal with
  | int j=>
   dsimp only at hrel'
   by_cases hj0:0≤j
   case neg=>rw [kz hj0] at hrel';cases hrel'
   rw [kC hj0] at hrel'
   obtain ⟨jn,rfl⟩:=yb hj0
   rw [yc] at hrel'
   cases hfj:fo'[jn]? with
   | none=>rw [hfj] at hrel';cases hrel'
   | some o=>
    obtain ⟨y,hy,hy2⟩:=hF5.get hfj
    rw [hfj] at hrel'
    refine ⟨_,rfl,_,rfl,fl,_,_,_,rfl,rfl,SqL.of hfl5,zq hy,rfl,_,rfl,?_⟩
    cases o with
    | none=>
     dsimp only at hrel' hy2
     subst hy2
     have npj:p≠jn:=fun z=>by rw [z,hfj] at hfp';cases hfp'
     have jlt:jn < fv.length:=(kf.mp hy).1
     have Sp:=S2.put (t:=p3) hfl5 hwd2 hst2 hp33 (by simp) (by rw [kl];show np.length+1≤_;lia) hfj
     have nwf:wd≠fl:=zC hwd2 hfl5 nofun
     have nlf:nl≠fl:=fun z=>by rw [z] at hn4;rw [S.fnd.choose_spec.1] at hn4;cases hn4
     have nlw:nl≠wl:=fun z=>by rw [z] at hn4;rw [S.wts] at hn4;cases hn4
     refine iteT ⟨_,rfl,_,rfl,_,rfl,fl,fv,_,jn,rfl,rfl,hfl5,?_,?_⟩
     ·unfold ixN
      rw [kC hj0,kC (by lia),yc]
     refine ⟨_,rfl,_,rfl,_,rfl,wd,_,rfl,DPut.k (k:=Sum.inl (jn:Int)) (by rw [zf nwf];exact hwd2) ?_,?_⟩
     ·obtain ⟨kk,e1,_,e3⟩:=S2.wks
      rw [hwd2] at e1
      cases e1
      rw [sizeLine_eq];lia
     have hwl5:(upd (upd H5 fl (.lst (fv.set jn (.ref a)))) wd (.dK (putK kvs' (Sum.inl (jn:Int)) (.ref p3)))) wl=some (.lst (wa'.map fun p=>V.int (p:Nat))):=by
      rw [zf (zC S2.wts hwd2 nofun),zf S2.nfw.symm];exact S2.wts
     refine ⟨_,rfl,.inl ⟨rfl,_,SqL.of hwl5⟩,_,rfl,wl,_,_,rfl,rfl,hwl5,?_,?_⟩
     ·rw [kj]
      have:=S2.wlen
      rw [sizeLine_eq];lia
     have kt:qr H5 (upd (upd (upd H5 fl (.lst (fv.set jn (.ref a)))) wd (.dK (putK kvs' (Sum.inl (jn:Int)) (.ref p3)))) wl (.lst ((wa'.map fun p=>V.int (p:Nat))++[V.int (jn:Nat)]))):=
      ((qr.upd hfl5 rfl).trans (qr.upd (u:=.dK kvs') (by rw [zf nwf];exact hwd2) rfl)).trans (qr.upd hwl5 rfl)
     refine ⟨_,_,_,_,_,rfl,by lia,hrel',by rw [List.getElem?_set,kz npj.symm];exact hfp',Sp.more (ke _) (by lia),⟨_,by rw [zf (zC hwd2 S2.wts nofun)];exact zb,?_⟩,kt _ _ htp2 rfl,?_,hN2.keep kt⟩
     ·rw [Qn,kz (fun z=>npj (by injection z with z;lia))];exact hv'
     ·rw [zf nlw,zf (zC hnl2 hwd2 nofun),zf nlf];exact hnl2
    | some s'=>
     dsimp only at hrel' hy2
     obtain ⟨a',rfl,hst'⟩:=hy2
     by_cases hs:s'=st'
     case neg=>rw [kz hs] at hrel';cases hrel'
     rw [kC hs] at hrel'
     subst hs
     refine iteF ⟨_,rfl,_,rfl,fl,_,_,_,rfl,rfl,SqL.of hfl5,zq hy,_,rfl,a',a,s',rfl,rfl,hst',hst2,false,rfl,iteF ?_⟩
     exact ⟨_,_,_,_,_,rfl,by lia,hrel',hfp',S2.more (ke _) (by lia),⟨kvs',hwd2,hv'⟩,htp2,hnl2,hN2⟩
  | _=>cases hrel'
 ·rintro σ H' ⟨v7,v8,v9,fo',wa',rfl,hi3,hrel',hfp',S',_⟩
  have hdr:ns.drop (ts.map V.ref).length=[]:=by rw [kj,hts];simp
  rw [hdr] at hrel'
  unfold J0 at hrel'
  cases hrel'
  exact k _ H' ⟨_,_,_,_,_,rfl⟩ (S'.more (ke _) (by rw [kj] at *;lia))
end
section
noncomputable def z97:Stmt:=(zN (top 54)).getD 5 (.Pass ⟨0,0,0,0⟩)
def z9l (K:ky) (H:Hp) (l:Addr) (rs:List Row) (fin:Fnd):TS:=fun D σ H3=>∃(d fl wd wl:Addr) (f0:Fnd),σ=[some (.ref l),some (.ref d),some (.ref fl),some (.ref wd),some (.ref wl),none,none,none,none,none]∧bfs rs 300 f0 [0]=some fin∧
 Srch K H H3 d fl wd wl rs f0 [0] (301 - 300) (3 * (301 - 300))∧∀v1 v3 v4 v5 v6 v7 v8 v9 fvs H',Same H H'→H fl=none→H' fl=some (.lst fvs)→qP K H' fvs fin→D.nx [some (.ref l),v1,some (.ref fl),v3,v4,v5,v6,v7,v8,v9] H'
def WhW (K:ky) (H:Hp) (l d fl wd wl:Addr) (rs:List Row) (foE:Fnd) (waE:List Nat) (n:Nat) (σ':L2.St) (H':Hp):Prop:=∃v5 v6 v7 v8 v9,σ'=[some (.ref l),some (.ref d),some (.ref fl),some (.ref wd),some (.ref wl),v5,v6,v7,v8,v9]∧Srch K H H' d fl wd wl rs foE waE (301 - n) (3 * (301 - n))
theorem z5S {f:Addr} {cdv:Value} {A:Around} {outer:List Env} {s:Shared} {H:Hp} {E:XK} {l:Addr} {as:List Addr} {rs:List Row} {fin:Fnd} (hr:Room 7 (A.deeper (envOfC "searched" (zd (top 54)) s.heap.objs.size f cdv)))
  (hS:SqL K H l (as.map V.ref)) (hR:zS H as rs) (hc:Code rs) (FS:FN P w K mg base 5 "state_words" ["code","labels","place","state"] (spSw K)) (FN':FN P w K mg base 4 "next_states" ["code","labels","place","state"] (z1u K)):
  PS (cxOf CX0 P w K mg base N54 "searched" (zd (top 54)) f cdv A outer s H E).nox z97 (z9l K H l rs fin):=by
 have hr5:=hr.mono (show 5≤7 by decide)
 refine PS.imp (ZC PassesOwn.never (Qs (pv 4) (fun _=>rfl))
   (z8 (zA (i:=5) sc54.nd rfl (Or.inl rfl) (z80 PySem.F.plainAttrs_list PySem.F.slot_list_pop PySem.F.type_list_pop z4A (pv 4) (z6 zg z7)))
   (z8 (zA (i:=6) sc54.nd rfl (Or.inl rfl) (zp FS hr5 rfl (z6 (pv 0) (z6 (pv 1) (z6 (pv 5) (z6 (zP zL (pv 2) (pv 5) (fun _ _=>rfl)) z7))))))
   (z8 (zD (Qs (pv 6) (fun _=>rfl)) qZ zu)
   (zc (z9E hr hS hR hc FN')))))) ?_
 rintro D σ H3 ⟨d,fl,wd,wl,f0,rfl,hfin,jO,q⟩
 refine ⟨fun m σ H2=>∃fo wa v5 v6 v7 v8 v9,σ=[some (.ref l),some (.ref d),some (.ref fl),some (.ref wd),some (.ref wl),v5,v6,v7,v8,v9]∧m≤300∧bfs rs m fo wa=some fin∧Srch K H H2 d fl wd wl rs fo wa (301 - m) (3 * (301 - m)),⟨300,f0,[0],none,none,none,none,none,rfl,ke _,hfin,jO⟩,?_⟩
 clear jO
 rintro m σ H2 ⟨fo,wa,v5,v6,v7,v8,v9,rfl,hm,hb,S⟩
 refine ⟨_,rfl,!wa.isEmpty,.inl ⟨_,SqL.of S.wts,by rw [List.isEmpty_map]⟩,?_⟩
 cases wa with
 | nil=>
  have hb:some fo=some fin:=by unfold bfs at hb;exact hb
  cases hb
  obtain ⟨fvs,hfl2,hF⟩:=S.fnd
  exact iteF (q _ _ _ _ _ _ _ _ fvs H2 S.same S.nf hfl2 hF)
 | cons p wa=>
  cases m with
  | zero=>unfold bfs at hb;cases hb
  | succ n=>
   unfold bfs at hb
   cases hrp:rs[p]? with
   | none=>rw [hrp] at hb;cases hb
   | some r=>
    cases hfp:fo[p]? with
    | none=>rw [hrp,hfp] at hb;cases hb
    | some o=>
     cases o with
     | none=>rw [hrp,hfp] at hb;cases hb
     | some st=>
      rw [hrp,hfp] at hb
      dsimp only at hb
      by_cases hw:(Zy rs p r st.1 st.2.getLast?).isEmpty=true∧st.2.length≤1000
      case neg=>rw [kz hw] at hb;cases hb
      rw [kC hw] at hb
      obtain ⟨hw,hz⟩:=hw
      cases hrel:J0 (Ql rs p r st) fo wa with
      | none=>rw [hrel] at hb;cases hb
      | some fw=>
       obtain ⟨foE,waE⟩:=fw
       rw [hrel] at hb
       dsimp only at hb
       refine iteT ⟨WhW K H l d fl wd wl rs foE waE n,fun σ' H' zz=>by obtain ⟨v5,v6,v7,v8,v9,e,S'⟩:=zz;exact ⟨n,yd _,foE,waE,v5,v6,v7,v8,v9,e,by lia,hb,S'⟩,?_⟩
       obtain ⟨k1,k2,k3⟩:=pop0 (xs:=(p :: wa).map fun p=>V.int (p:Nat)) rfl
       refine ⟨_,rfl,.inl ⟨rfl,_,SqL.of S.wts⟩,wl,_,0,0,_,rfl,rfl,S.wts,by decide,by decide,k1,k2,?_⟩
       rw [k3]
       have S1:=S.pop
       generalize upd H2 wl (.lst (wa.map fun p=>V.int (p:Nat)))=H3 at S1
       obtain ⟨fvs,hfl2,hF⟩:=S1.fnd
       obtain ⟨x,hx,hx2⟩:=hF.get hfp
       obtain ⟨sa,rfl,hsa⟩:=hx2
       refine ⟨_,rfl,_,rfl,_,rfl,_,rfl,_,rfl,fl,_,_,_,rfl,rfl,SqL.of hfl2,zq hx,l,d,p,sa,st,rs,r,rfl,S1.code hS hR hc,hrp,hsa,fun wf H4 s4 hn4 hwf=>?_⟩
       refine ⟨_,rfl,false,.inl ⟨_,SqL.of hwf,by rw [List.isEmpty_map,hw];rfl⟩,iteF ?_⟩
       exact ⟨d,fl,wd,wl,p,r,st,n,_,_,_,_,fo,wa,foE,waE,rfl,by lia,hrp,hfp,hz,hrel,(S1.same' s4).more (by lia) (by lia),fun σ' H' ⟨v5,v6,v7,v8,v9,e⟩ S'=>⟨v5,v6,v7,v8,v9,e,S'⟩⟩
theorem z1k (D:zo K mg "searched" (top 54)) (G:Glo mg) (T:z5o w K mg) (FL:FN P w K mg base 7 "label_places" ["rows"] (z1v K)) (FS:FN P w K mg base 5 "state_words" ["code","labels","place","state"] (spSw K)) (FN':FN P w K mg base 4 "next_states" ["code","labels","place","state"] (z1u K)):
  FN P w K mg base 8 "searched" ["code"] (J4 K):=by
 refine FN.o D sc54 fun f cdv A outer s H vs Q E hr h=>?_
 obtain ⟨l,as,rs,fin,rfl,hS,hR,hc,hfin,q⟩:=h
 have hu:=Zq hr
 have hu3:(A.deeper (envOfC "searched" (zd (top 54)) s.heap.objs.size f cdv)).units+3 < cLine:=by have:=hr.un;lia
 obtain ⟨fa,fg,mfa,tfa,tfg⟩:=T.first
 have hr5:=hr.mono (show 5≤7 by decide)
 have hr4:=hr.mono (show 4≤7 by decide)
 refine ⟨_,z8 (zA (i:=1) sc54.nd rfl (Or.inl rfl) (zp FL hr rfl (z6 (pv 0) z7)))
  (z8 (zA (i:=2) sc54.nd rfl (Or.inl rfl) (zJ z82 (qu (z6 qc z7)) (zy zQ rfl G.len qt (z6 (pv 0) z7))))
  (z8 (j6 (qh rfl mfa (v:=.ref fa) rfl) (Qb (pv 2) zg jE))
  (z8 (zA (i:=3) sc54.nd rfl (Or.inl rfl) (z3a (ZF zg (zE (z6 zg z7)) z35) rfl rfl nofun (by decide)))
  (z8 (zA (i:=4) sc54.nd rfl (Or.inl rfl) (qu (z6 zg z7)))
  (z8 (z5S (fin:=fin) hr hS hR hc FS FN')
  (zc (zm (zE (z6 (pv 2) (z6 qc z7)))))))))),?_⟩
 try dsimp only [L2.cxOf,L2.Cx.nox]
 have hlen:=hc.hi
 have hlo:=hc.lo
 refine ⟨_,rfl,l,as,rs,rfl,hS,hR,hc.ok,by lia,fun d kvs0 H1 hd0 s1 hd1 hL=>?_⟩
 have hll:as.length=rs.length:=hR.len
 refine ⟨by show 1≤sizeLine;decide,fun p0 hp0=>?_⟩
 have t0:=zh hp0 (.lst [V.non])
 refine ⟨_,rfl,l,_,rfl,.inl (t0.seq (s1.seq hS)),p0,_,[V.non],rfl,rfl,zb,?_,?_,?_,fun fl hfl=>?_⟩
 ·rw [kj];lia
 ·rw [kj];lia
 ·rw [kj]
  show 1 * ((as.length:Nat):Int).toNat≤sizeLine
  rw [sizeLine_eq,yc];lia
 have efl:(List.replicate (((as.map V.ref).length:Nat):Int).toNat [V.non]).flatten=List.replicate rs.length V.non:=by
  rw [yc,kj,hll]
  generalize rs.length=n
  induction n with
  | zero=>rfl
  | succ n ih=>rw [List.replicate_succ,List.flatten_cons,ih];rfl
 rw [efl]
 have sA:Same H (upd H1 p0 (.lst [V.non])):=s1.trans t0
 have hfl0:H fl=none:=sA.free hfl
 have nfd:d≠fl:=ze (t0 _ _ hd1) hfl
 refine ⟨_,rfl,fl,_,0,0,rfl,rfl,zb,?_,?_⟩
 ·unfold ixN
  rw [kC (by decide),kC (by rw [List.length_replicate];lia)]
  rfl
 rw [z5W]
 have f0:qP K (upd (upd H1 p0 (.lst [V.non])) fl (.lst ((List.replicate rs.length V.non).set 0 (.ref fa)))) ((List.replicate rs.length V.non).set 0 (.ref fa)) ((List.replicate rs.length none).set 0 (some (0,[]))):=
  qP.set (st:=(0,[])) ⟨fg,tfa.sq _,[],tfg.sq _,.nil⟩ 0 (Jd _ _ _)
 generalize hfv:(List.replicate rs.length V.non).set 0 (V.ref fa)=fvs0 at f0
 intro wd hwd
 have sB:Same H (upd (upd H1 p0 (.lst [V.non])) fl (.lst fvs0)):=fun b o e=>by rw [zf (ze e hfl0)];exact sA _ _ e
 generalize hHB:upd (upd H1 p0 (.lst [V.non])) fl (.lst fvs0)=HB at *
 have hflB:HB fl=some (.lst fvs0):=by rw [←hHB];exact zb
 have hdB:HB d=some (.dK kvs0):=by rw [←hHB,zf nfd];exact t0 _ _ hd1
 have hwd0:H wd=none:=sB.free hwd
 have s3:=zh hwd (.dK [])
 refine ⟨by show 1≤sizeLine;decide,fun p1 hp1=>?_⟩
 have s4:=zh hp1 (.tup [V.int 0])
 refine ⟨s4 _ _ zb,[(Sum.inl 0,.ref p1)],rfl,(by show 1≤15;decide),?_⟩
 have em:Qc [] [((Sum.inl 0:Key),V.ref p1)]=[(Sum.inl 0,V.ref p1)]:=rfl
 rw [em]
 refine ⟨by show 1≤sizeLine;decide,fun wl hwl=>?_⟩
 have npw:p1≠wd:=(ze (H:=upd HB wd (.dK [])) zb hp1).symm
 have hwl':wl≠wd:=fun z=>by rw [z,zb] at hwl;cases hwl
 have hwl2:(upd (upd HB wd (.dK [])) p1 (.tup [V.int 0])) wl=none:=by rw [zf hwl'] at hwl;exact hwl
 have sC:Same HB (upd (upd HB wd (.dK [])) p1 (.tup [V.int 0])):=s3.trans s4
 have hwlB:HB wl=none:=sC.free hwl2
 have sD:Same HB (upd (upd (upd (upd HB wd (.dK [])) p1 (.tup [V.int 0])) wd (.dK [(Sum.inl 0,V.ref p1)])) wl (.lst [V.int 0])):=fun b o e=>by
  rw [zf (ze e hwlB),zf (ze e hwd)];exact sC _ _ e
 generalize hHD:upd (upd (upd (upd HB wd (.dK [])) p1 (.tup [V.int 0])) wd (.dK [(Sum.inl 0,V.ref p1)])) wl (.lst [V.int 0])=HD at *
 have hp1D:HD p1=some (.tup [V.int 0]):=by
  rw [←hHD,zf (fun z=>by rw [←z,zb] at hwl2;cases hwl2),zf npw];exact zb
 have hwdD:HD wd=some (.dK [(Sum.inl 0,V.ref p1)]):=by rw [←hHD,zf hwl'.symm];exact zb
 have hwlD:HD wl=some (.lst [V.int 0]):=by rw [←hHD];exact zb
 have jO:Srch K H HD d fl wd wl rs ((List.replicate rs.length none).set 0 (some (0,[]))) [0] (301 - 300) (3 * (301 - 300)):=by
  refine ⟨sB.trans sD,⟨kvs0,sD _ _ hdB,hL⟩,hfl0,hwd0,sB.free hwlB,⟨fvs0,sD _ _ hflB,f0.keep (qr.of sD)⟩,⟨_,hwdD,fun p st e=>?_,(by show 1≤3;decide)⟩,hwlD,(by show 1≤3;decide),by simp,ze hdB hwd,ze hflB hwlB⟩
  have hp:p=0:=by
   rw [List.getElem?_set] at e
   by_cases z:0=p
   ·exact z.symm
   ·rw [kz z,List.getElem?_replicate] at e
    split at e <;> cases e
  subst hp
  exact ⟨p1,_,rfl,hp1D,nofun,(by show 1≤1;decide)⟩
 refine ⟨d,fl,wd,wl,_,rfl,hfin,jO,fun v1 v3 v4 v5 v6 v7 v8 v9 fvs H' s' _ h1 h2=>?_⟩
 refine ⟨_,rfl,by show 2≤sizeLine;decide,fun t ht=>?_⟩
 have st:=zh ht (.tup [V.ref fl,.non])
 exact q t fl fvs _ (s'.trans st) (s'.free ht) hfl0 zb (st _ _ h1) (h2.keep (qr.of st))
end
section
def z1t (K:ky):Sp:=fun vs H Q _=>∃l as rs fin,vs=[.ref l]∧H l=some (.lst (as.map V.ref))∧zS H as rs∧Code rs∧Q1 rs=some fin∧
 ∀fl fvs H',Same H H'→H fl=none→H' fl=some (.lst fvs)→qP K H' fvs fin→Q (.ref fl) H'
theorem sc55:zj ["code","found","reason"] ["code"] (zd (top 55)):=fsM
theorem z3E (D:zo K mg "states" (top 55)) (FC:FN P w K mg base 9 "check_code" ["thing"] z2U) (FS:FN P w K mg base 8 "searched" ["code"] (J4 K)):FN P w K mg base 10 "states" ["code"] (z1t K):=by
 refine FN.o D sc55 fun f cdv A outer s H vs Q E hr h=>?_
 obtain ⟨l,as,rs,fin,rfl,hl,hR,hc,hfin,q⟩:=h
 refine ⟨_,z8 (zk (zp FC hr rfl (z6 (pv 0) z7)))
  (z8 (j6 (zp FS (hr.mono (by decide)) rfl (z6 (pv 0) z7)) (jg rfl (zt (zB (i:=1) sc55.nd rfl (Or.inl rfl)) (zt (zB (i:=2) sc55.nd rfl (Or.inl rfl)) qy))))
  (z8 (zD (zl Q4 (pv 2) qc (zn _)) qZ zu) (zc (zm (pv 1))))),?_⟩
 try dsimp only [L2.cxOf,L2.Cx.nox]
 refine ⟨_,rfl,l,as,rs,rfl,hl,hR,hc,fun H1 s1=>?_⟩
 refine ⟨_,rfl,l,as,rs,fin,rfl,SqL.of (s1 _ _ hl),hR.same s1,hc,hfin,fun t fl fvs H2 s2 ht hfl h1 h2 h3=>?_⟩
 refine ⟨t,_,rfl,SqT.of h1,rfl,_,_,rfl,_,_,rfl,rfl,?_⟩
 exact ⟨_,rfl,rfl,_,rfl,iteF ⟨_,rfl,q fl fvs H2 (s1.trans s2) (s1.free hfl) h2 h3⟩⟩
noncomputable def jc:V→Bool
 | .non=>false
 | .bl b=>b
 | .int i=>i != 0
 | .str z=>(z.length:Int) != 0
 | _=>true
def z1s:Sp:=fun vs H Q _=>∃x,vs=[x]∧Scal x∧Q (.bl (jc x)) H
theorem sc58:zj ["value"] ["value"] (zd (top 58)):=fsM
theorem z6F (D:zo K mg "is_true" (top 58)) (G:Glo mg):FN P w K mg base 1 "is_true" ["value"] z1s:=by
 refine FN.o D sc58 fun f cdv A outer s H vs Q E hr h=>?_
 obtain ⟨x,rfl,hx,q⟩:=h
 refine ⟨_,zc (zm (ji JZ rfl G.bool jk (z6 (pv 0) z7))),?_⟩
 try dsimp only [L2.cxOf,L2.Cx.nox]
 refine ⟨x,rfl,x,rfl,?_⟩
 cases hx with
 | non=>exact .inl ⟨rfl,q⟩
 | bl b=>exact .inr (.inl ⟨b,rfl,q⟩)
 | int i=>exact .inr (.inr (.inl ⟨i,rfl,q⟩))
 | str z hz=>exact .inr (.inr (.inr ⟨z,rfl,hz,q⟩))
theorem ZW:bootBuiltins "dict"=some (.type "dict"):=by trivial
theorem z5l:bootBuiltins "all"=some (.builtin "all"):=by trivial
def QZ (kvs:List (Key × V)):Prop:=kvs.length≤8∧∀p∈kvs,∃nm:Str,p.1=Sum.inr nm∧nm.length≤sizeLine∧JF (.str nm)=true∧Scal p.2∧J3 p.2 1000000000000000000=true
def z2P:Sp:=fun vs H Q _=>∃d kvs,vs=[.ref d]∧H d=some (.dK kvs)∧QZ kvs∧∀H',Same H H'→Q (.bl true) H'
theorem sc76:zj ["thing"] ["thing"] (zd (top 76)):=fsM
theorem ndnv:(["name","value"]:List Str).Nodup:=by trivial
theorem z4X (D:zo K mg "is_names" (top 76)) (G:Glo mg) (F1:FN P w K mg base 2 "is_name" ["thing"] (sp1 JF)) (F2:FN P w K mg base 3 "is_value_within" ["thing","most"] z0V):FN P w K mg base 4 "is_names" ["thing"] z2P:=by
 refine FN.o D sc76 fun f cdv A outer s H vs Q E hr h=>?_
 obtain ⟨d,kvs,rfl,hd,⟨hn,hall⟩,q⟩:=h
 obtain ⟨u1,m1,r1⟩:=G.made
 refine ⟨_,z8 (zD (PW.pt (Qz (jy (qK (zy zM rfl G.isinstance zx (z6 (pv 0) (z6 (Z2 "dict" rfl G.dict ZW) z7)))))
   (Zj (zl z0l (zy z42 rfl G.len qt (z6 (pv 0) z7)) (jt rfl G.names) (zn _))))) qZ zu)
  (zc (zm (zy (z00 rfl) rfl G.all z5l (z6 (z1G (N:=["name","value"]) (nt:=2) (ix:=[]) (cl:=[]) rfl (Zm.plain (by trivial) (by trivial) rfl (by trivial) rfl) (pv 0)
   (fun _ _ _ _=>Jw (K:=K) (n:=2) rfl rfl (zt (zB (i:=0) ndnv rfl (Or.inl rfl)) (zt (zB (i:=1) ndnv rfl (Or.inl rfl)) qy)))
   (fun _ _ _ _=>z14)
   (fun _ _ _ _=>j7 (zp F1 (hr.mono (by decide)) rfl (z6 (pv 0) z7)) (jh (zp F2 hr rfl (z6 (pv 1) (z6 (qh rfl m1 r1) z7)))))) z7)))),?_⟩
 try dsimp only [L2.cxOf,L2.Cx.nox]
 refine ⟨_,rfl,_,"dict",_,true,rfl,.dK hd,rfl,_,rfl,iteF ?_⟩
 refine ⟨_,rfl,d,kvs,rfl,hd,_,_,rfl,rfl,_,rfl,?_⟩
 rw [kh (show ¬((8:Int) < (kvs.length:Int)) by lia)]
 refine iteF ⟨_,rfl,d,kvs,rfl,hd,fun o l hl=>?_⟩
 refine Ji (Q:=fun x H1=>∃(p:Addr) (bs:List Bool),[x]=[V.ref p]∧SqL K H1 p (bs.map V.bl)∧Q (V.bl (bs.all id)) H1) (fun i ys σ H2=>(∃a b,σ=[a,b])∧ys=List.replicate i (V.bl true)∧H2 l=some (.lst ys)∧H2 d=some (.frz o (.dK kvs))∧∀b o,H b=some o→b≠d→H2 b=some o) ⟨⟨none,none,rfl⟩,rfl,zb,?_,?_⟩ (fun i ys σ H2 h=>h.2.2.2.1) ?_ ?_
 ·rw [zf (ze hd hl)];exact zb
 ·intro b o e hb
  rw [zf (ze e hl),zf hb];exact e
 ·rintro i p k v ys σ H2 hi ⟨⟨a,b,rfl⟩,rfl,hl2,hd2,kp⟩ hp
  obtain ⟨nm,ek,hz,h1,h2,h3⟩:=hall (k,v) (kI hi)
  have ek:k=Sum.inr nm:=ek
  subst ek
  have hil:=(kf.mp hi).1
  have npl:l≠p:=ze hl2 hp
  have npd:d≠p:=ze hd2 hp
  refine ⟨p,_,rfl,SqT.of zb,rfl,_,_,rfl,_,_,rfl,rfl,?_⟩
  refine z0S ⟨_,rfl,_,rfl,.str nm hz,_,rfl,?_⟩
  rw [show JF (kV (Sum.inr nm))=true from h1]
  refine iteT ⟨_,rfl,_,_,rfl,h2,?_⟩
  rw [h3]
  refine ⟨by rw [zf npl];exact hl2,by rw [List.length_replicate];exact qJ (by lia),_,by lia,rfl,by lia,⟨_,_,rfl⟩,by rw [List.replicate_succ'],zb,?_,fun b o e hb=>?_⟩
  ·rw [zf (ze hd hl),zf npd];exact hd2
  ·rw [zf (ze e hl),zf (ze (kp _ _ e hb) hp)];exact kp _ _ e hb
 ·rintro ys σ H2 ⟨_,rfl,hl2,hd2,kp⟩
  have nld:l≠d:=(ze hd hl).symm
  refine ⟨l,List.replicate kvs.length true,rfl,SqL.of ?_,?_⟩
  ·rw [zf nld,hl2,List.map_replicate]
  ·have e:(List.replicate kvs.length true).all id=true:=by
    rw [List.all_eq_true]
    intro b hb
    rw [List.eq_of_mem_replicate hb]
    rfl
   rw [e]
   refine q _ fun b o e=>?_
   by_cases z:b=d
   ·subst z
    rw [hd] at e
    cases e
    exact zb
   ·rw [zf z];exact kp _ _ e z
def z5D:Sp:=fun vs H Q _=>∃d kvs,vs=[.ref d]∧H d=some (.dK kvs)∧QZ kvs∧∀H',Same H H'→Q .non H'
theorem sc77:zj ["thing"] ["thing"] (zd (top 77)):=fsM
theorem z77 (D:zo K mg "check_names" (top 77)) (F1:FN P w K mg base 4 "is_names" ["thing"] z2P):FN P w K mg base 5 "check_names" ["thing"] z5D:=by
 refine FN.o D sc77 fun f cdv A outer s H vs Q E hr h=>?_
 obtain ⟨d,kvs,rfl,hd,hn,q⟩:=h
 refine ⟨_,zc (zD (jy (qK (zp F1 hr rfl (z6 (pv 0) z7)))) qZ zu),?_⟩
 try dsimp only [L2.cxOf,L2.Cx.nox]
 exact ⟨_,rfl,d,kvs,rfl,hd,hn,fun H' s'=>⟨_,rfl,iteF (q H' s')⟩⟩
def z5C:Sp:=fun vs H Q _=>∃n:Nat,vs=[.int n]∧n≤100000∧Q .non H
theorem sc78:zj ["thing"] ["thing"] (zd (top 78)):=fsM
theorem z76 (D:zo K mg "check_steps" (top 78)) (G:Glo mg) (F1:FN P w K mg base 2 "is_number_within" ["thing","low","high"] jP):FN P w K mg base 3 "check_steps" ["thing"] z5C:=by
 refine FN.o D sc78 fun f cdv A outer s H vs Q E hr h=>?_
 obtain ⟨n,rfl,hn,q⟩:=h
 refine ⟨_,zc (zD (jy (qK (zp F1 hr rfl (z6 (pv 0) (z6 zg (z6 (jt rfl G.steps) z7)))))) qZ zu),?_⟩
 try dsimp only [L2.cxOf,L2.Cx.nox]
 have e:qQ (.int (n:Nat)) 0 100000=true:=by
  show (decide ((0:Int)≤(n:Nat))&&decide (((n:Nat):Int)≤100000))=true
  rw [ki (by lia),ki (by lia)]
  rfl
 refine ⟨_,rfl,.int (n:Nat),0,100000,rfl,.int _,?_⟩
 rw [e]
 exact ⟨_,rfl,iteF q⟩
end
structure jJ (K:ky) (C:Addr):Prop where
 cl:Cls K C
 held:jq K C "held"
 known:jq K C "known"
 said:jq K C "said"
structure Mst where
 st:List V
 kn:List (Key × V)
 sd:List V
 deriving DecidableEq
structure j4 (H:Hp) (C ho hl kd sl dx:Addr) (m:Mst):Prop where
 ins:H ho=some (.ins C dx [("held",.ref hl),("known",.ref kd),("said",.ref sl)])
 held:H hl=some (.lst m.st)
 known:H kd=some (.dK m.kn)
 said:H sl=some (.lst m.sd)
 ne:hl≠sl
inductive Res where
 | next | go | fault (k:Str) | value (v:V)
 deriving DecidableEq
noncomputable def resV:Res→List V
 | .next=>[.str "next",.non]
 | .go=>[.str "go",.non]
 | .fault k=>[.str "fault",.str k]
 | .value v=>[.str "value",v]
structure Cons (K:ky) (mg:Str→Option Value):Prop where
 next:∃a,mg "NEXT"=some (.ref a)∧KTup K a [.str "next",.non]
 go:∃a,mg "GO"=some (.ref a)∧KTup K a [.str "go",.non]
 unset:∃a,mg "UNSET"=some (.ref a)∧KTup K a [.str "fault",.str "Unset"]
 on:∃a,mg "ON"=some (.ref a)∧KTup K a [.str "on"]
abbrev Deed:=Str→V→Mst→Option (Res × Mst)
def zF (H H':Hp) (a b c:Addr):Prop:=∀x o,H x=some o→x≠a→x≠b→x≠c→H' x=some o
def zZ (K:ky) (C:Addr) (g:Deed):Sp:=fun vs H Q _=>∃ho hl kd sl dx op arg m res m',vs=[.ref ho,.str op,arg]∧j4 H C ho hl kd sl dx m∧g op arg m=some (res,m')∧
 ∀t H',SqT K H' t (resV res)→j4 H' C ho hl kd sl dx m'→zF H H' hl kd sl→Q (.ref t) H'
theorem z7n {K:ky} {C:Addr} {g:Deed} (vs:List V) (H:Hp) (Q:VK) (E:XK) (h:zZ K C g vs H Q E):vs.length=3:=by
 obtain ⟨_,_,_,_,_,_,_,_,_,_,rfl,_⟩:=h
 rfl
theorem j4.setHeld {H:Hp} {C ho hl kd sl dx:Addr} {m:Mst} (h:j4 H C ho hl kd sl dx m) (xs:List V):j4 (upd H hl (.lst xs)) C ho hl kd sl dx { m with st:=xs }:=
 ⟨by rw [zf (zC h.ins h.held nofun)];exact h.ins,zb,by rw [zf (zC h.known h.held nofun)];exact h.known,by rw [zf h.ne.symm];exact h.said,h.ne⟩
theorem j4.setSaid {H:Hp} {C ho hl kd sl dx:Addr} {m:Mst} (h:j4 H C ho hl kd sl dx m) (xs:List V):j4 (upd H sl (.lst xs)) C ho hl kd sl dx { m with sd:=xs }:=
 ⟨by rw [zf (zC h.ins h.said nofun)];exact h.ins,by rw [zf h.ne];exact h.held,by rw [zf (zC h.known h.said nofun)];exact h.known,zb,h.ne⟩
theorem j4.setKnown {H:Hp} {C ho hl kd sl dx:Addr} {m:Mst} (h:j4 H C ho hl kd sl dx m) (kn:List (Key × V)):j4 (upd H kd (.dK kn)) C ho hl kd sl dx { m with kn:=kn }:=
 ⟨by rw [zf (zC h.ins h.known nofun)];exact h.ins,by rw [zf (zC h.held h.known nofun)];exact h.held,zb,by rw [zf (zC h.said h.known nofun)];exact h.said,h.ne⟩
theorem j4.same {H H':Hp} {C ho hl kd sl dx:Addr} {m:Mst} (h:j4 H C ho hl kd sl dx m) (s:Same H H'):j4 H' C ho hl kd sl dx m:=⟨s _ _ h.ins,s _ _ h.held,s _ _ h.known,s _ _ h.said,h.ne⟩
theorem zF.refl {H:Hp} {a b c:Addr}:zF H H a b c:=fun _ _ e _ _ _=>e
theorem zF.trans {H H1 H2:Hp} {a b c:Addr} (x:zF H H1 a b c) (y:zF H1 H2 a b c):zF H H2 a b c:=fun z o e h1 h2 h3=>y z o (x z o e h1 h2 h3) h1 h2 h3
theorem zF.of {H H':Hp} {a b c:Addr} (s:Same H H'):zF H H' a b c:=fun z o e _ _ _=>s z o e
theorem zF.a {H:Hp} {a b c:Addr} {o:HO}:zF H (upd H a o) a b c:=fun z o e h1 _ _=>by rw [zf h1];exact e
theorem zF.b {H:Hp} {a b c:Addr} {o:HO}:zF H (upd H b o) a b c:=fun z o e _ h1 _=>by rw [zf h1];exact e
theorem zF.c {H:Hp} {a b c:Addr} {o:HO}:zF H (upd H c o) a b c:=fun z o e _ _ h1=>by rw [zf h1];exact e
theorem z6w {xs:List V} {v:V} (h:xs.getLast?=some v):xs=xs.dropLast++[v]:=by
 have hne:xs≠[]:=fun z=>by rw [z] at h;cases h
 rw [List.getLast?_eq_getLast hne] at h
 cases h
 exact (List.dropLast_concat_getLast hne).symm
theorem zX {xs:List V} {v:V} (h:xs.getLast?=some v):xs[xs.length - 1]?=some v:=by
 rw [←List.getLast?_eq_getElem?];exact h
noncomputable def jx:V→Bool
 | .str z=>decide (z.length≤1000)
 | .non=>true
 | .bl _=>true
 | .int _=>true
 | _=>false
theorem jl {x:V} (h:jx x=true):Scal x:=by
 cases x with
 | str z=>exact .str z (z1w (kE h))
 | non=>exact .non
 | bl b=>exact .bl b
 | int i=>exact .int i
 | _=>cases h
noncomputable def qC (n:Nat):Bool:=decide (n≤1000)
noncomputable def z0z:Deed:=fun _ arg m=>if qC m.st.length=true then some (.next,{ m with st:=m.st++[arg] }) else none
noncomputable def J1:Deed:=fun _ arg m=>match arg with
 | .str nm=>(match valV m.kn (Sum.inr nm:Key) with
  | none=>some (.fault "Unset",m)
  | some v=>if qC m.st.length=true then some (.next,{ m with st:=m.st++[v] }) else none)
 | _=>none
noncomputable def ZQ:Deed:=fun _ arg m=>match arg with
 | .str nm=>if qC m.st.length=true then some (.next,{ m with st:=m.st++[(valV m.kn (Sum.inr nm:Key)).getD .non] }) else none
 | _=>none
noncomputable def ZO:Deed:=fun _ arg m=>match arg with
 | .str nm=>(match m.st.getLast? with
  | some v=>if qC m.kn.length=true then some (.next,{ m with st:=m.st.dropLast,kn:=putK m.kn (Sum.inr nm) v }) else none
  | none=>none)
 | _=>none
noncomputable def Zl:Deed:=fun _ arg m=>match arg with
 | .str nm=>(match valV m.kn (Sum.inr nm:Key) with
  | none=>some (.fault "Unset",m)
  | some _=>some (.next,{ m with kn:=z1n m.kn (Sum.inr nm) }))
 | _=>none
noncomputable def JO:Deed:=fun _ _ m=>match m.st.getLast? with
 | some v=>if qC m.sd.length=true then some (.next,{ m with st:=m.st.dropLast,sd:=m.sd++[v] }) else none
 | none=>none
noncomputable def gIf:Deed:=fun op _ m=>match m.st.getLast? with
 | some v=>if jx v=true then some (if jc v=decide (op="iftrue") then .go else .next,{ m with st:=m.st.dropLast }) else none
 | none=>none
noncomputable def gOr:Deed:=fun op _ m=>match m.st.getLast? with
 | some v=>if jx v=true then some (if jc v=decide (op="ortrue") then (.go,m) else (.next,{ m with st:=m.st.dropLast })) else none
 | none=>none
noncomputable def jS:Deed:=fun _ _ m=>match m.st.getLast? with
 | some v=>some (.value v,{ m with st:=m.st.dropLast })
 | none=>none
section
variable {C:Addr}
theorem qj {n:Nat} (h:qC n=true):n < sizeLine:=qJ (kE h)
theorem sc80:zj ["hold","op","arg"] ["hold","op","arg"] (zd (top 80)):=fsM
theorem z6N (D:zo K mg "do_push" (top 80)) (c:jJ K C) (cs:Cons K mg):FN P w K mg base 1 "do_push" ["hold","op","arg"] (zZ K C z0z):=by
 refine FN.o D sc80 fun f cdv A outer s H vs Q E hr h=>?_
 obtain ⟨ho,hl,kd,sl,dx,op,arg,m,res,m',rfl,hA,hg,q⟩:=h
 obtain ⟨na,mn,tn⟩:=cs.next
 refine ⟨_,z8 (zk (qO (zI (pv 0) rfl) (z6 (pv 2) z7))) (zc (zm (qh rfl mn (v:=.ref na) rfl))),?_⟩
 try dsimp only [L2.cxOf,L2.Cx.nox]
 unfold z0z at hg
 by_cases hz:qC m.st.length=true
 case neg=>rw [kz hz] at hg;cases hg
 rw [kC hz] at hg
 cases hg
 refine ⟨_,rfl,ho,C,dx,_,.ref hl,rfl,hA.ins,c.cl,c.held,rfl,.inl ⟨rfl,_,SqL.of hA.held⟩,_,rfl,hl,_,_,rfl,rfl,hA.held,qj hz,?_⟩
 exact q na _ (tn.sq _) (hA.setHeld _) zF.a
theorem sc81:zj ["hold","op","arg"] ["hold","op","arg"] (zd (top 81)):=fsM
theorem z6W (D:zo K mg "do_load" (top 81)) (c:jJ K C) (cs:Cons K mg):FN P w K mg base 1 "do_load" ["hold","op","arg"] (zZ K C J1):=by
 refine FN.o D sc81 fun f cdv A outer s H vs Q E hr h=>?_
 obtain ⟨ho,hl,kd,sl,dx,op,arg,m,res,m',rfl,hA,hg,q⟩:=h
 have hu:=Zq hr
 obtain ⟨na,mn,tn⟩:=cs.next
 obtain ⟨ua,mu,tu⟩:=cs.unset
 refine ⟨_,z8 (zD (z1B (QC hu (pv 2) (zI (pv 0) rfl))) (zc (zm (qh rfl mu (v:=.ref ua) rfl))) zu)
  (z8 (zk (qO (zI (pv 0) rfl) (z6 (jz hu (zI (pv 0) rfl) (pv 2) (fun _ _=>rfl)) z7))) (zc (zm (qh rfl mn (v:=.ref na) rfl)))),?_⟩
 try dsimp only [L2.cxOf,L2.Cx.nox]
 cases arg with
 | str nm=>
  unfold J1 at hg
  dsimp only at hg
  have hgt:DGet H kd (.str nm) (valV m.kn (Sum.inr nm:Key)):=DGet.k (k:=Sum.inr nm) hA.known
  refine ⟨_,rfl,_,rfl,ho,C,dx,_,.ref kd,rfl,hA.ins,c.cl,c.known,rfl,kd,_,rfl,hgt,_,rfl,?_⟩
  cases hv:valV m.kn (Sum.inr nm:Key) with
  | none=>
   rw [hv] at hg
   cases hg
   exact iteT (q ua H (tu.sq _) hA zF.refl)
  | some v=>
   rw [hv] at hg hgt
   dsimp only at hg
   by_cases hz:qC m.st.length=true
   case neg=>rw [kz hz] at hg;cases hg
   rw [kC hz] at hg
   cases hg
   refine iteF ⟨_,rfl,ho,C,dx,_,.ref hl,rfl,hA.ins,c.cl,c.held,rfl,.inl ⟨rfl,_,SqL.of hA.held⟩,_,rfl,ho,C,dx,_,.ref kd,rfl,hA.ins,c.cl,c.known,rfl,_,rfl,kd,v,rfl,hgt,hl,_,_,rfl,rfl,hA.held,qj hz,?_⟩
   exact q na _ (tn.sq _) (hA.setHeld _) zF.a
 | _=>cases hg
theorem sc82:zj ["hold","op","arg"] ["hold","op","arg"] (zd (top 82)):=fsM
theorem z4W (D:zo K mg "do_quick" (top 82)) (c:jJ K C) (cs:Cons K mg):FN P w K mg base 1 "do_quick" ["hold","op","arg"] (zZ K C ZQ):=by
 refine FN.o D sc82 fun f cdv A outer s H vs Q E hr h=>?_
 obtain ⟨ho,hl,kd,sl,dx,op,arg,m,res,m',rfl,hA,hg,q⟩:=h
 have hu:=Zq hr
 obtain ⟨na,mn,tn⟩:=cs.next
 refine ⟨_,z8 (zk (qO (zI (pv 0) rfl) (z6 (z1F hu (zI (pv 0) rfl) (pv 2) ⟨rfl,rfl,rfl,rfl⟩) z7))) (zc (zm (qh rfl mn (v:=.ref na) rfl))),?_⟩
 try dsimp only [L2.cxOf,L2.Cx.nox]
 cases arg with
 | str nm=>
  unfold ZQ at hg
  dsimp only at hg
  have hgt:DGet H kd (.str nm) (valV m.kn (Sum.inr nm:Key)):=DGet.k (k:=Sum.inr nm) hA.known
  by_cases hz:qC m.st.length=true
  case neg=>rw [kz hz] at hg;cases hg
  rw [kC hz] at hg
  cases hg
  refine ⟨_,rfl,ho,C,dx,_,.ref hl,rfl,hA.ins,c.cl,c.held,rfl,.inl ⟨rfl,_,SqL.of hA.held⟩,_,rfl,ho,C,dx,_,.ref kd,rfl,hA.ins,c.cl,c.known,rfl,kd,rfl,.inl ⟨_,.inl hA.known⟩,_,rfl,_,hgt,hl,_,_,rfl,rfl,hA.held,qj hz,?_⟩
  exact q na _ (tn.sq _) (hA.setHeld _) zF.a
 | _=>cases hg
theorem sc83:zj ["hold","op","arg"] ["hold","op","arg"] (zd (top 83)):=fsM
theorem z4T (D:zo K mg "do_store" (top 83)) (c:jJ K C) (cs:Cons K mg):FN P w K mg base 1 "do_store" ["hold","op","arg"] (zZ K C ZO):=by
 refine FN.o D sc83 fun f cdv A outer s H vs Q E hr h=>?_
 obtain ⟨ho,hl,kd,sl,dx,op,arg,m,res,m',rfl,hA,hg,q⟩:=h
 have hu:=Zq hr
 obtain ⟨na,mn,tn⟩:=cs.next
 refine ⟨_,z8 (QA hu (zI (pv 0) rfl) (pv 2) (qF (zI (pv 0) rfl)) rfl) (zc (zm (qh rfl mn (v:=.ref na) rfl))),?_⟩
 try dsimp only [L2.cxOf,L2.Cx.nox]
 cases arg with
 | str nm=>
  unfold ZO at hg
  dsimp only at hg
  cases hv:m.st.getLast? with
  | none=>rw [hv] at hg;cases hg
  | some v=>
   rw [hv] at hg
   dsimp only at hg
   by_cases hz:qC m.kn.length=true
   case neg=>rw [kz hz] at hg;cases hg
   rw [kC hz] at hg
   cases hg
   have h1:=hA.setHeld m.st.dropLast
   refine ⟨_,rfl,ho,C,dx,_,.ref hl,rfl,hA.ins,c.cl,c.held,rfl,.inl ⟨rfl,_,SqL.of hA.held⟩,hl,_,_,rfl,rfl,hA.held,zX hv,?_⟩
   refine ⟨_,rfl,ho,C,dx,_,.ref kd,rfl,h1.ins,c.cl,c.known,rfl,_,rfl,kd,_,rfl,DPut.k (k:=Sum.inr nm) h1.known (qj hz),?_⟩
   exact q na _ (tn.sq _) (h1.setKnown _) (zF.a.trans zF.b)
 | _=>cases hg
theorem sc84:zj ["hold","op","arg"] ["hold","op","arg"] (zd (top 84)):=fsM
theorem z58 (D:zo K mg "do_clear" (top 84)) (c:jJ K C) (cs:Cons K mg):FN P w K mg base 1 "do_clear" ["hold","op","arg"] (zZ K C Zl):=by
 refine FN.o D sc84 fun f cdv A outer s H vs Q E hr h=>?_
 obtain ⟨ho,hl,kd,sl,dx,op,arg,m,res,m',rfl,hA,hg,q⟩:=h
 have hu:=Zq hr
 obtain ⟨na,mn,tn⟩:=cs.next
 obtain ⟨ua,mu,tu⟩:=cs.unset
 refine ⟨_,z8 (zD (z1B (QC hu (pv 2) (zI (pv 0) rfl))) (zc (zm (qh rfl mu (v:=.ref ua) rfl))) zu)
  (z8 (zk (z1E (zI (pv 0) rfl) (pv 2) ⟨rfl,rfl,rfl,rfl⟩)) (zc (zm (qh rfl mn (v:=.ref na) rfl)))),?_⟩
 try dsimp only [L2.cxOf,L2.Cx.nox]
 cases arg with
 | str nm=>
  unfold Zl at hg
  dsimp only at hg
  have hgt:DGet H kd (.str nm) (valV m.kn (Sum.inr nm:Key)):=DGet.k (k:=Sum.inr nm) hA.known
  refine ⟨_,rfl,_,rfl,ho,C,dx,_,.ref kd,rfl,hA.ins,c.cl,c.known,rfl,kd,_,rfl,hgt,_,rfl,?_⟩
  cases hv:valV m.kn (Sum.inr nm:Key) with
  | none=>
   rw [hv] at hg
   cases hg
   exact iteT (q ua H (tu.sq _) hA zF.refl)
  | some v=>
   rw [hv] at hg
   cases hg
   refine iteF ⟨_,rfl,ho,C,dx,_,.ref kd,rfl,hA.ins,c.cl,c.known,rfl,kd,rfl,.inl ⟨_,.inl hA.known⟩,_,rfl,_,Sum.inr nm,v,hA.known,rfl,hv,?_⟩
   exact q na _ (tn.sq _) (hA.setKnown _) zF.b
 | _=>cases hg
theorem sc91:zj ["hold","op","arg"] ["hold","op","arg"] (zd (top 91)):=fsM
theorem z6H (D:zo K mg "do_tell" (top 91)) (c:jJ K C) (cs:Cons K mg):FN P w K mg base 1 "do_tell" ["hold","op","arg"] (zZ K C JO):=by
 refine FN.o D sc91 fun f cdv A outer s H vs Q E hr h=>?_
 obtain ⟨ho,hl,kd,sl,dx,op,arg,m,res,m',rfl,hA,hg,q⟩:=h
 obtain ⟨na,mn,tn⟩:=cs.next
 refine ⟨_,z8 (zk (qO (zI (pv 0) rfl) (z6 (qF (zI (pv 0) rfl)) z7))) (zc (zm (qh rfl mn (v:=.ref na) rfl))),?_⟩
 try dsimp only [L2.cxOf,L2.Cx.nox]
 unfold JO at hg
 cases hv:m.st.getLast? with
 | none=>rw [hv] at hg;cases hg
 | some v=>
  rw [hv] at hg
  dsimp only at hg
  by_cases hz:qC m.sd.length=true
  case neg=>rw [kz hz] at hg;cases hg
  rw [kC hz] at hg
  cases hg
  have h1:=hA.setHeld m.st.dropLast
  refine ⟨_,rfl,ho,C,dx,_,.ref sl,rfl,hA.ins,c.cl,c.said,rfl,.inl ⟨rfl,_,SqL.of hA.said⟩,_,rfl,ho,C,dx,_,.ref hl,rfl,hA.ins,c.cl,c.held,rfl,.inl ⟨rfl,_,SqL.of hA.held⟩,hl,_,_,rfl,rfl,hA.held,zX hv,sl,_,_,rfl,rfl,h1.said,qj hz,?_⟩
  exact q na _ (tn.sq _) (h1.setSaid _) (zF.a.trans zF.c)
theorem sc93:zj ["hold","op","arg"] ["hold","op","arg"] (zd (top 93)):=fsM
theorem j9 {a b:Str}:decide (V.str a=V.str b)=decide (a=b):=by
 by_cases h:a=b
 ·rw [h];simp
 ·rw [kh h,kh (fun z=>h (by injection z))]
theorem z9P (D:zo K mg "do_if" (top 93)) (c:jJ K C) (cs:Cons K mg) (FT:FN P w K mg base 1 "is_true" ["value"] z1s):FN P w K mg base 2 "do_if" ["hold","op","arg"] (zZ K C gIf):=by
 refine FN.o D sc93 fun f cdv A outer s H vs Q E hr h=>?_
 obtain ⟨ho,hl,kd,sl,dx,op,arg,m,res,m',rfl,hA,hg,q⟩:=h
 obtain ⟨na,mn,tn⟩:=cs.next
 obtain ⟨ga,mgo,tg⟩:=cs.go
 refine ⟨_,zc (zm (qG (zl zT (zp FT hr rfl (z6 (qF (zI (pv 0) rfl)) z7)) (qv zT (pv 1) zi (zn _)) (zn _)) (qh rfl mgo (v:=.ref ga) rfl) (qh rfl mn (v:=.ref na) rfl))),?_⟩
 try dsimp only [L2.cxOf,L2.Cx.nox]
 unfold gIf at hg
 cases hv:m.st.getLast? with
 | none=>rw [hv] at hg;cases hg
 | some v=>
  rw [hv] at hg
  dsimp only at hg
  by_cases hz:jx v=true
  case neg=>rw [kz hz] at hg;cases hg
  rw [kC hz] at hg
  cases hg
  have h1:=hA.setHeld m.st.dropLast
  refine ⟨_,rfl,ho,C,dx,_,.ref hl,rfl,hA.ins,c.cl,c.held,rfl,.inl ⟨rfl,_,SqL.of hA.held⟩,hl,_,_,rfl,rfl,hA.held,zX hv,v,rfl,jl hz,_,rfl,rfl,rfl,_,rfl,?_⟩
  rw [j9,Jg]
  refine ite2 (fun e=>?_) (fun e=>?_)
  ·rw [kC (eq_of_beq e)] at q
   exact q ga _ (tg.sq _) h1 zF.a
  ·rw [kz (fun z=>e (beq_iff_eq.mpr z))] at q
   exact q na _ (tn.sq _) h1 zF.a
theorem sc94:zj ["hold","op","arg"] ["hold","op","arg"] (zd (top 94)):=fsM
theorem z9J (D:zo K mg "do_or" (top 94)) (c:jJ K C) (cs:Cons K mg) (FT:FN P w K mg base 1 "is_true" ["value"] z1s):FN P w K mg base 2 "do_or" ["hold","op","arg"] (zZ K C gOr):=by
 refine FN.o D sc94 fun f cdv A outer s H vs Q E hr h=>?_
 obtain ⟨ho,hl,kd,sl,dx,op,arg,m,res,m',rfl,hA,hg,q⟩:=h
 obtain ⟨na,mn,tn⟩:=cs.next
 obtain ⟨ga,mgo,tg⟩:=cs.go
 refine ⟨_,z8 (zD (zl zT (zp FT hr rfl (z6 (zP zL (zI (pv 0) rfl) (Z1 jb zg) (fun _ _=>rfl)) z7)) (qv zT (pv 1) zi (zn _)) (zn _)) (zc (zm (qh rfl mgo (v:=.ref ga) rfl))) zu)
  (z8 (zk (qF (zI (pv 0) rfl))) (zc (zm (qh rfl mn (v:=.ref na) rfl)))),?_⟩
 try dsimp only [L2.cxOf,L2.Cx.nox]
 unfold gOr at hg
 cases hv:m.st.getLast? with
 | none=>rw [hv] at hg;cases hg
 | some v=>
  rw [hv] at hg
  dsimp only at hg
  by_cases hz:jx v=true
  case neg=>rw [kz hz] at hg;cases hg
  rw [kC hz] at hg
  have hat:atI m.st (-1)=some v:=by rw [z6w hv];exact z02 _ _
  refine ⟨_,rfl,ho,C,dx,_,.ref hl,rfl,hA.ins,c.cl,c.held,rfl,1,rfl,hl,_,_,v,rfl,rfl,SqL.of hA.held,hat,v,rfl,jl hz,_,rfl,rfl,rfl,_,rfl,?_⟩
  rw [j9,Jg]
  refine ite2 (fun e=>?_) (fun e=>?_)
  ·rw [kC (eq_of_beq e)] at hg
   cases hg
   exact q ga _ (tg.sq _) hA zF.refl
  ·rw [kz (fun z=>e (beq_iff_eq.mpr z))] at hg
   cases hg
   refine ⟨_,rfl,ho,C,dx,_,.ref hl,rfl,hA.ins,c.cl,c.held,rfl,.inl ⟨rfl,_,SqL.of hA.held⟩,hl,_,_,rfl,rfl,hA.held,zX hv,?_⟩
   exact q na _ (tn.sq _) (hA.setHeld _) zF.a
theorem sc95:zj ["hold","op","arg"] ["hold","op","arg"] (zd (top 95)):=fsM
theorem z3G (D:zo K mg "do_return" (top 95)) (c:jJ K C):FN P w K mg base 1 "do_return" ["hold","op","arg"] (zZ K C jS):=by
 refine FN.o D sc95 fun f cdv A outer s H vs Q E hr h=>?_
 obtain ⟨ho,hl,kd,sl,dx,op,arg,m,res,m',rfl,hA,hg,q⟩:=h
 refine ⟨_,zc (zm (zE (z6 zi (z6 (qF (zI (pv 0) rfl)) z7)))),?_⟩
 try dsimp only [L2.cxOf,L2.Cx.nox]
 unfold jS at hg
 cases hv:m.st.getLast? with
 | none=>rw [hv] at hg;cases hg
 | some v=>
  rw [hv] at hg
  cases hg
  have h1:=hA.setHeld m.st.dropLast
  refine ⟨_,rfl,ho,C,dx,_,.ref hl,rfl,hA.ins,c.cl,c.held,rfl,.inl ⟨rfl,_,SqL.of hA.held⟩,hl,_,_,rfl,rfl,hA.held,zX hv,by show 2≤sizeLine;decide,fun p hp=>?_⟩
  have sp:=zh hp (.tup [.str "value",v])
  exact q p _ (SqT.of zb) (h1.same sp) (zF.a.trans (zF.of sp))
noncomputable def z2u:Deed:=fun _ _ m=>some (.go,m)
theorem sc92:zj ["hold","op","arg"] ["hold","op","arg"] (zd (top 92)):=fsM
theorem z6Z (D:zo K mg "do_jump" (top 92)) (cs:Cons K mg):FN P w K mg base 1 "do_jump" ["hold","op","arg"] (zZ K C z2u):=by
 refine FN.o D sc92 fun f cdv A outer s H vs Q E hr h=>?_
 obtain ⟨ho,hl,kd,sl,dx,op,arg,m,res,m',rfl,hA,hg,q⟩:=h
 obtain ⟨ga,mgo,tg⟩:=cs.go
 cases hg
 exact ⟨_,zc (zm (qh rfl mgo (v:=.ref ga) rfl)),q ga _ (tg.sq _) hA zF.refl⟩
end
theorem z21:bootBuiltins "abs"=some (.builtin "abs"):=by trivial
theorem z1L {X:Cx}:OpR X (binaryOp .FloorDiv) (rI (fun _ j=>j≠0∧j.natAbs.log2 < 9000) fun i j=>.int (i.fdiv j)):=opI fun _ _ _ _ _ _ _ hc q=>floordiv_int hc.1 q (.inl (PyProof.noPylong_of_log2 hc.2))
noncomputable def big (i:Int):Bool:=decide (1000000000000000000 < i.natAbs)
theorem z0q {j:Int} (h:big j=false):j.natAbs.log2 < 9000:=by
 have h1:¬1000000000000000000 < j.natAbs:=of_decide_eq_false h
 by_cases z:j.natAbs=0
 ·rw [z];decide
 ·have h2:=(Nat.log2_lt z (k:=64)).mpr (by lia)
  lia
noncomputable def reck (op:Str) (i j:Int):Option Int:=
 if op="add" then some (i+j) else if op="sub" then some (i - j) else if op="mul" then some (i * j) else if op="div" then (if j=0 then none else some (i.fdiv j)) else if op="rest" then (if j=0 then none else some (i.fmod j)) else none
noncomputable def z29 (x y:V):Bool:=isB x == isB y&&decide (x=y)
noncomputable def jm (op:Str) (x y:V):Option (V × V):=
 if op="same" then some (.non,.bl (z29 x y)) else match x,y with
 | .int i,.int j=>if big i=true then none else if big j=true then none else if (op="div"∨op="rest")∧j=0 then some (.str "Zero",.non) else if op="less" then some (.non,.bl (decide (i < j)))
  else (match reck op i j with
   | some k=>if big k=true then some (.str "Big",.non) else some (.non,.int k)
   | none=>none)
 | _,_=>some (.str "Type",.non)
theorem Zf {op:Str} {x y:V} (h0:op≠"same") (h:jC x=false∨jC y=false):jm op x y=some (.str "Type",.non):=by
 unfold jm
 rw [kz h0]
 cases x with
 | int i=>
  cases y with
  | int j=>rcases h with h | h <;> cases h
  | _=>rfl
 | _=>rfl
noncomputable def QJ (op:Str) (x:V):Option (V × V):=
 if op="not" then some (.non,.bl (!jc x)) else match x with
 | .int i=>some (.non,.int (-i))
 | _=>some (.str "Type",.non)
structure TabR (w:World) (K:ky) (mg:Str→Option Value):Prop where
 tab:∃d f1 f2 f3 f4 f5,mg "RECKONINGS"=some (.ref d)∧KTab w.params K d [("add",.ref f1),("sub",.ref f2),("mul",.ref f3),("div",.ref f4),("rest",.ref f5)]∧
  mg "sum_of"=some (.ref f1)∧mg "difference_of"=some (.ref f2)∧mg "product_of"=some (.ref f3)∧mg "quotient_of"=some (.ref f4)∧mg "rest_of"=some (.ref f5)
def spI2 (c:Int→Int→Prop) (g:Int→Int→Int):Sp:=fun vs H Q _=>∃i j,vs=[.int i,.int j]∧c i j∧Q (.int (g i j)) H
theorem ZB {c:Int→Int→Prop} {g:Int→Int→Int} (vs:List V) (H:Hp) (Q:VK) (E:XK) (h:spI2 c g vs H Q E):vs.length=2:=by
 obtain ⟨i,j,rfl,_⟩:=h
 rfl
abbrev Sm (i j:Int):Prop:=big i=false∧big j=false
section
theorem sc60:zj ["first","second"] ["first","second"] (zd (top 60)):=fsM
theorem z8p (D:zo K mg "sum_of" (top 60)):FN P w K mg base 1 "sum_of" ["first","second"] (spI2 Sm (· +·)):=by
 refine FN.of D sc60 (fun _ _ _ _ _ _=>zU2 fun _ _=>rfl) ZB (fun f cdv A outer s H vs Q E hr h=>?_)
 obtain ⟨i,j,rfl,hc,q⟩:=h
 exact ⟨_,zc (zm (zJ qV (pv 0) (pv 1))),_,rfl,_,rfl,i,j,rfl,rfl,q⟩
theorem sc61:zj ["first","second"] ["first","second"] (zd (top 61)):=fsM
theorem z73 (D:zo K mg "difference_of" (top 61)):FN P w K mg base 1 "difference_of" ["first","second"] (spI2 Sm (· - ·)):=by
 refine FN.of D sc61 (fun _ _ _ _ _ _=>zU2 fun _ _=>rfl) ZB (fun f cdv A outer s H vs Q E hr h=>?_)
 obtain ⟨i,j,rfl,hc,q⟩:=h
 exact ⟨_,zc (zm (zJ qU (pv 0) (pv 1))),_,rfl,_,rfl,i,j,rfl,rfl,q⟩
theorem sc62:zj ["first","second"] ["first","second"] (zd (top 62)):=fsM
theorem z0f {i j:Int} (h:big i=false):CMul i j:=by
 have h1:¬1000000000000000000 < i.natAbs:=of_decide_eq_false h
 exact .inl ⟨by lia,by lia⟩
theorem z6O (D:zo K mg "product_of" (top 62)):FN P w K mg base 1 "product_of" ["first","second"] (spI2 Sm (· * ·)):=by
 refine FN.of D sc62 (fun _ _ _ _ _ _=>zU2 fun _ _=>rfl) ZB (fun f cdv A outer s H vs Q E hr h=>?_)
 obtain ⟨i,j,rfl,hc,q⟩:=h
 exact ⟨_,zc (zm (zJ J9 (pv 0) (pv 1))),_,rfl,_,rfl,i,j,rfl,rfl,z0f hc.1,q⟩
theorem sc63:zj ["first","second"] ["first","second"] (zd (top 63)):=fsM
theorem z6M (D:zo K mg "quotient_of" (top 63)):FN P w K mg base 1 "quotient_of" ["first","second"] (spI2 (fun i j=>Sm i j∧j≠0) Int.fdiv):=by
 refine FN.of D sc63 (fun _ _ _ _ _ _=>zU2 fun _ _=>rfl) ZB (fun f cdv A outer s H vs Q E hr h=>?_)
 obtain ⟨i,j,rfl,hc,q⟩:=h
 exact ⟨_,zc (zm (zJ z1L (pv 0) (pv 1))),_,rfl,_,rfl,i,j,rfl,rfl,⟨hc.2,z0q hc.1.2⟩,q⟩
theorem sc64:zj ["first","second"] ["first","second"] (zd (top 64)):=fsM
theorem z6L (D:zo K mg "rest_of" (top 64)):FN P w K mg base 1 "rest_of" ["first","second"] (spI2 (fun i j=>Sm i j∧j≠0) Int.fmod):=by
 refine FN.of D sc64 (fun _ _ _ _ _ _=>zU2 fun _ _=>rfl) ZB (fun f cdv A outer s H vs Q E hr h=>?_)
 obtain ⟨i,j,rfl,hc,q⟩:=h
 exact ⟨_,zc (zm (zJ z3c (pv 0) (pv 1))),_,rfl,_,rfl,i,j,rfl,rfl,hc.2,q⟩
def z5v:Sp:=fun vs H Q _=>∃x y,vs=[x,y]∧Scal x∧Scal y∧Q (.bl (z29 x y)) H
theorem sc59:zj ["first","second"] ["first","second"] (zd (top 59)):=fsM
theorem z0h {x y:V} (hx:Scal x) (hy:Scal y) (h:isB x=isB y):scal x y=true:=by
 cases hx <;> cases hy <;> first | rfl | (cases h)
theorem z6K (D:zo K mg "are_same" (top 59)) (G:Glo mg):FN P w K mg base 1 "are_same" ["first","second"] z5v:=by
 refine FN.o D sc59 fun f cdv A outer s H vs Q E hr h=>?_
 obtain ⟨x,y,rfl,hx,hy,q⟩:=h
 refine ⟨_,zc (zm (j7 (qv zT (zy zM rfl G.isinstance zx (z6 (pv 0) (z6 (Z2 "bool" rfl G.bool jk) z7))) (zy zM rfl G.isinstance zx (z6 (pv 1) (z6 (Z2 "bool" rfl G.bool jk) z7))) (zn _))
  (jh (qv zT (pv 0) (pv 1) (zn _))))),?_⟩
 try dsimp only [L2.cxOf,L2.Cx.nox]
 obtain ⟨t1,ty1,k1⟩:=jB (K:=K) (H:=H) hx
 obtain ⟨t2,ty2,k2⟩:=jB (K:=K) (H:=H) hy
 refine ⟨_,rfl,_,"bool",t1,_,rfl,ty1,k1,_,rfl,_,"bool",t2,_,rfl,ty2,k2,rfl,isB x == isB y,congrArg V.bl Jg,?_⟩
 unfold z29 at q
 cases e:isB x == isB y with
 | true=>
  rw [e,Bool.true_and] at q
  exact iteT ⟨_,rfl,_,rfl,z0h hx hy (eq_of_beq e),q⟩
 | false=>
  rw [e,Bool.false_and] at q
  exact iteF q
def z2Q:Sp:=fun vs H Q _=>∃op x y r1 r2,vs=[.str op,x,y]∧Scal x∧Scal y∧jm op x y=some (r1,r2)∧∀t H',Same H H'→H' t=some (.tup [r1,r2])→Q (.ref t) H'
theorem sc66:zj ["op","first","second","reckon","value"] ["op","first","second"] (zd (top 66)):=fsM
theorem z7j {k:Int}:decide ((1000000000000000000:Int) < (if k < 0 then -k else k))=big k:=by
 unfold big
 by_cases h:k < 0
 ·rw [kC h]
  by_cases z:(1000000000000000000:Int) < -k
  ·rw [ki z,ki (by lia)]
  ·rw [kh z,kh (by lia)]
 ·rw [kz h]
  by_cases z:(1000000000000000000:Int) < k
  ·rw [ki z,ki (by lia)]
  ·rw [kh z,kh (by lia)]
noncomputable def st66 (k:Nat):Stmt:=(zN (top 66)).getD k (.Pass ⟨0,0,0,0⟩)
noncomputable abbrev N66:List Str:=["op","first","second","reckon","value"]
noncomputable def z1O (op:Str) (i j:Int):Option (V × V):=if op="less" then some (.non,.bl (decide (i < j))) else (match reck op i j with
 | some k=>if big k=true then some (.str "Big",.non) else some (.non,.int k)
 | none=>none)
def T66:TS:=fun D σ H=>∃(op:Str) (i j:Int) (r1 r2:V),σ=[some (.str op),some (.int i),some (.int j),none,none]∧Sm i j∧z1O op i j=some (r1,r2)∧∀t H',Same H H'→H' t=some (.tup [r1,r2])→D.rt (.ref t) H'
theorem z6j {K:ky} {mg:Str→Option Value} {f1 f2 f3 f4 f5:Addr} {op:Str} {i j k:Int} (hs:Sm i j) (h:reck op i j=some k) (m1:mg "sum_of"=some (.ref f1)) (m2:mg "difference_of"=some (.ref f2)) (m3:mg "product_of"=some (.ref f3)) (m4:mg "quotient_of"=some (.ref f4)) (m5:mg "rest_of"=some (.ref f5))
  (F1:FN P w K mg base 1 "sum_of" ["first","second"] (spI2 Sm (· +·))) (F2:FN P w K mg base 1 "difference_of" ["first","second"] (spI2 Sm (· - ·))) (F3:FN P w K mg base 1 "product_of" ["first","second"] (spI2 Sm (· * ·)))
  (F4:FN P w K mg base 1 "quotient_of" ["first","second"] (spI2 (fun i j=>Sm i j∧j≠0) Int.fdiv)) (F5:FN P w K mg base 1 "rest_of" ["first","second"] (spI2 (fun i j=>Sm i j∧j≠0) Int.fmod)):
  ∃(c:Int→Int→Prop) (g:Int→Int→Int) (name:Str) (fa:Addr),FN P w K mg base 1 name ["first","second"] (spI2 c g)∧mg name=some (.ref fa)∧([("add",.ref f1),("sub",.ref f2),("mul",.ref f3),("div",.ref f4),("rest",.ref f5)]:List (Str × V)).lookup op=some (.ref fa)∧c i j∧g i j=k:=by
 unfold reck at h
 by_cases h1:op="add"
 ·rw [kC h1] at h;exact ⟨_,_,_,_,F1,m1,by rw [h1];rfl,hs,kD h⟩
 rw [kz h1] at h
 by_cases h1:op="sub"
 ·rw [kC h1] at h;exact ⟨_,_,_,_,F2,m2,by rw [h1];rfl,hs,kD h⟩
 rw [kz h1] at h
 by_cases h1:op="mul"
 ·rw [kC h1] at h;exact ⟨_,_,_,_,F3,m3,by rw [h1];rfl,hs,kD h⟩
 rw [kz h1] at h
 by_cases h1:op="div"
 ·rw [kC h1] at h
  by_cases hj:j=0
  ·rw [kC hj] at h;cases h
  ·rw [kz hj] at h;exact ⟨_,_,_,_,F4,m4,by rw [h1];rfl,⟨hs,hj⟩,kD h⟩
 rw [kz h1] at h
 by_cases h1:op="rest"
 ·rw [kC h1] at h
  by_cases hj:j=0
  ·rw [kC hj] at h;cases h
  ·rw [kz hj] at h;exact ⟨_,_,_,_,F5,m5,by rw [h1];rfl,⟨hs,hj⟩,kD h⟩
 rw [kz h1] at h
 cases h
theorem z7R {f:Addr} {cdv:Value} {A:Around} {outer:List Env} {s:Shared} {H0:Hp} {E:XK} (hr:Room 1 (A.deeper (envOfC "made_of_two" (zd (top 66)) s.heap.objs.size f cdv))) (G:Glo mg) (T:TabR w K mg)
  (F1:FN P w K mg base 1 "sum_of" ["first","second"] (spI2 Sm (· +·))) (F2:FN P w K mg base 1 "difference_of" ["first","second"] (spI2 Sm (· - ·))) (F3:FN P w K mg base 1 "product_of" ["first","second"] (spI2 Sm (· * ·)))
  (F4:FN P w K mg base 1 "quotient_of" ["first","second"] (spI2 (fun i j=>Sm i j∧j≠0) Int.fdiv)) (F5:FN P w K mg base 1 "rest_of" ["first","second"] (spI2 (fun i j=>Sm i j∧j≠0) Int.fmod)):
  PSs (cxOf CX0 P w K mg base N66 "made_of_two" (zd (top 66)) f cdv A outer s H0 E).nox [st66 3,st66 4,st66 5,st66 6,st66 7] T66:=by
 obtain ⟨d,f1,f2,f3,f4,f5,md,td,m1,m2,m3,m4,m5⟩:=T.tab
 refine PSs.imp (z8 (zD (zl zT (pv 0) zi (zn _)) (zc (zm (zE (z6 qc (z6 (qv Qj (pv 1) (pv 2) (zn _)) z7))))) zu)
  (z8 (zA (i:=3) sc66.nd rfl (Or.inl rfl) (Jy td rfl md (pv 0) (fun _ _=>rfl)))
  (z8 (zA (i:=4) sc66.nd rfl (Or.inl rfl) (JB (pv 3) (z6 (pv 1) (z6 (pv 2) z7))))
  (z8 (zD (zl z0l (zy z1Z rfl G.abs z21 (z6 (pv 4) z7)) (jt rfl G.made) (zn _)) (zc (zm (zE (z6 zi (z6 qc z7))))) zu)
  (zc (zm (zE (z6 qc (z6 (pv 4) z7))))))))) ?_
 rintro D σ H ⟨op,i,j,r1,r2,rfl,hs,hm,q⟩
 unfold z1O at hm
 refine ⟨_,rfl,rfl,decide (op="less"),congrArg V.bl j9,?_⟩
 by_cases h0:op="less"
 ·rw [kC h0] at hm
  cases hm
  rw [ki h0]
  exact iteT ⟨_,rfl,_,rfl,_,_,rfl,rfl,by show 2≤sizeLine;decide,fun t ht=>q t _ (zh ht _) zb⟩
 rw [kz h0] at hm
 rw [kh h0]
 refine iteF ?_
 cases hk:reck op i j with
 | none=>rw [hk] at hm;cases hm
 | some k=>
  rw [hk] at hm
  dsimp only at hm
  obtain ⟨c,g,name,fa,⟨f',fd,a',b',c',d'⟩,e1,e2,e3,e4⟩:=z6j (P:=P) (w:=w) (base:=base) hs hk m1 m2 m3 m4 m5 F1 F2 F3 F4 F5
  rw [a'] at e1
  cases e1
  subst e4
  refine ⟨_,rfl,op,_,rfl,e2,fa,fd,_,_,1,rfl,b',d',hr,c',_,rfl,_,rfl,i,j,rfl,e3,?_⟩
  refine ⟨_,rfl,_,rfl,_,_,rfl,rfl,big (g i j),congrArg V.bl z7j,?_⟩
  cases b:big (g i j) with
  | true=>
   rw [b,kC rfl] at hm
   cases hm
   exact iteT ⟨by show 2≤sizeLine;decide,fun t ht=>q t _ (zh ht _) zb⟩
  | false=>
   rw [b,kz ka] at hm
   cases hm
   exact iteF ⟨_,rfl,by show 2≤sizeLine;decide,fun t ht=>q t _ (zh ht _) zb⟩
theorem z4Z (D:zo K mg "made_of_two" (top 66)) (FN1:FN P w K mg base 1 "is_number" ["thing"] (sp1 jC)) (FSm:FN P w K mg base 1 "are_same" ["first","second"] z5v) (G:Glo mg) (T:TabR w K mg)
  (F1:FN P w K mg base 1 "sum_of" ["first","second"] (spI2 Sm (· +·))) (F2:FN P w K mg base 1 "difference_of" ["first","second"] (spI2 Sm (· - ·))) (F3:FN P w K mg base 1 "product_of" ["first","second"] (spI2 Sm (· * ·)))
  (F4:FN P w K mg base 1 "quotient_of" ["first","second"] (spI2 (fun i j=>Sm i j∧j≠0) Int.fdiv)) (F5:FN P w K mg base 1 "rest_of" ["first","second"] (spI2 (fun i j=>Sm i j∧j≠0) Int.fmod)):FN P w K mg base 2 "made_of_two" ["op","first","second"] z2Q:=by
 refine FN.o D sc66 fun f cdv A outer s H vs Q E hr h=>?_
 obtain ⟨op,x,y,r1,r2,rfl,hx,hy,hm,q⟩:=h
 refine ⟨_,z8 (zD (zl zT (pv 0) zi (zn _)) (zc (zm (zE (z6 qc (z6 (zp FSm hr rfl (z6 (pv 1) (z6 (pv 2) z7))) z7))))) zu)
  (z8 (zD (PW.pt (Qz (jy (qK (zp FN1 hr rfl (z6 (pv 1) z7)))) (Zj (jy (qK (zp FN1 hr rfl (z6 (pv 2) z7))))))) (zc (zm (zE (z6 zi (z6 qc z7))))) zu)
  (z8 (zD (PW.pt (J8 (zl qx (pv 0) (zE (z6 zi (z6 zi z7))) rfl) (Q3 (zl zT (pv 2) zg (zn _))))) (zc (zm (zE (z6 zi (z6 qc z7))))) zu)
  (z7R hr G T F1 F2 F3 F4 F5))),?_⟩
 try dsimp only [L2.cxOf,L2.Cx.nox]
 refine ⟨_,rfl,rfl,decide (op="same"),congrArg V.bl j9,?_⟩
 by_cases h0:op="same"
 ·unfold jm at hm
  rw [kC h0] at hm
  cases hm
  rw [ki h0]
  exact iteT ⟨_,rfl,_,rfl,x,y,rfl,hx,hy,by show 2≤sizeLine;decide,fun t ht=>q t _ (zh ht _) zb⟩
 rw [kh h0]
 refine iteF ⟨_,rfl,x,rfl,hx,jC x,rfl,?_⟩
 have typ:jm op x y=some (.str "Type",.non)→∀σ,tTup (jr (tC (.str "Type")) (jr (tC .non) tNil)) σ H Q:=fun e σ=>by
  rw [hm] at e
  cases e
  exact ⟨by show 2≤sizeLine;decide,fun t ht=>q t _ (zh ht _) zb⟩
 cases hnx:jC x with
 | false=>exact iteT (iteT (typ (Zf h0 (.inl hnx)) _))
 | true=>
  refine iteF ⟨_,rfl,y,rfl,hy,jC y,rfl,?_⟩
  cases hny:jC y with
  | false=>exact iteT (typ (Zf h0 (.inr hny)) _)
  | true=>
   refine iteF ?_
   clear typ
   cases hx with
   | int i=>
    cases hy with
    | int j=>
     unfold jm at hm
     rw [kz h0] at hm
     dsimp only at hm
     cases b1:big i with
     | true=>rw [b1,kC rfl] at hm;cases hm
     | false=>
      rw [b1,kz ka] at hm
      cases b2:big j with
      | true=>rw [b2,kC rfl] at hm;cases hm
      | false=>
       rw [b2,kz ka] at hm
       refine ⟨_,rfl,by show 2≤sizeLine;decide,fun p hp=>⟨p,_,rfl,.inr (SqT.of zb),rfl,rfl,inT op ["div","rest"],rfl,?_⟩⟩
       have s1:=zh hp (.tup [.str "div",.str "rest"])
       generalize upd H p (.tup [.str "div",.str "rest"])=H1 at *
       have go:¬((op="div"∨op="rest")∧j=0)→T66 { nx:=fun _ H'=>Q .non H',rt:=Q } [some (.str op),some (.int i),some (.int j),none,none] H1:=fun z=>by
        rw [kz z] at hm
        exact ⟨op,i,j,r1,r2,rfl,⟨b1,b2⟩,hm,fun t H' s' ht=>q t H' (s1.trans s') ht⟩
       cases hin:inT op ["div","rest"] with
       | false=>
        refine iteF (iteF (go fun z=>?_))
        have:inT op ["div","rest"]=true:=qT.mpr (by rcases z.1 with z | z <;> rw [z] <;> decide+kernel)
        rw [hin] at this
        cases this
       | true=>
        have hop:op="div"∨op="rest":=by
         have:=qT.mp hin
         rcases kF.mp this with z | z
         ·exact .inl z
         ·exact .inr (ko.mp z)
        obtain ⟨z,hz⟩:∃z,decide (V.int j=V.int 0)=z:=⟨_,rfl⟩
        refine iteT ⟨_,rfl,rfl,z,congrArg V.bl hz,?_⟩
        cases z with
        | true=>
         have hj:j=0:=by have:=kE hz;injection this
         rw [kC ⟨hop,hj⟩] at hm
         cases hm
         exact iteT ⟨by show 2≤sizeLine;decide,fun t ht=>q t _ (s1.trans (zh ht _)) zb⟩
        | false=>
         have hj:¬j=0:=fun z=>by rw [z] at hz;cases hz
         exact iteF (go fun z=>hj z.2)
    | _=>cases hny
   | _=>cases hnx
def z2R:Sp:=fun vs H Q _=>∃op x r1 r2,vs=[.str op,x]∧Scal x∧QJ op x=some (r1,r2)∧∀t H',Same H H'→H' t=some (.tup [r1,r2])→Q (.ref t) H'
theorem sc67:zj ["op","value"] ["op","value"] (zd (top 67)):=fsM
theorem z50 (D:zo K mg "made_of_one" (top 67)) (FN1:FN P w K mg base 1 "is_number" ["thing"] (sp1 jC)) (FT:FN P w K mg base 1 "is_true" ["value"] z1s):FN P w K mg base 2 "made_of_one" ["op","value"] z2R:=by
 refine FN.o D sc67 fun f cdv A outer s H vs Q E hr h=>?_
 obtain ⟨op,x,r1,r2,rfl,hx,hm,q⟩:=h
 refine ⟨_,z8 (zD (zl zT (pv 0) zi (zn _)) (zc (zm (zE (z6 qc (z6 (z0j (zp FT hr rfl (z6 (pv 1) z7))) z7))))) zu)
  (z8 (zD (jy (qK (zp FN1 hr rfl (z6 (pv 1) z7)))) (zc (zm (zE (z6 zi (z6 qc z7))))) zu)
  (zc (zm (zE (z6 qc (z6 (Z1 jb (pv 1)) z7)))))),?_⟩
 try dsimp only [L2.cxOf,L2.Cx.nox]
 unfold QJ at hm
 refine ⟨_,rfl,rfl,decide (op="not"),congrArg V.bl j9,?_⟩
 by_cases h0:op="not"
 ·rw [kC h0] at hm
  cases hm
  rw [ki h0]
  exact iteT ⟨_,rfl,x,rfl,hx,_,rfl,by show 2≤sizeLine;decide,fun t ht=>q t _ (zh ht _) zb⟩
 rw [kz h0] at hm
 rw [kh h0]
 refine iteF ⟨_,rfl,x,rfl,hx,jC x,rfl,?_⟩
 cases hx with
 | int i=>cases hm;exact iteF ⟨_,rfl,i,rfl,by show 2≤sizeLine;decide,fun t ht=>q t _ (zh ht _) zb⟩
 | non=>cases hm;exact iteT ⟨by show 2≤sizeLine;decide,fun t ht=>q t _ (zh ht _) zb⟩
 | bl b=>cases hm;exact iteT ⟨by show 2≤sizeLine;decide,fun t ht=>q t _ (zh ht _) zb⟩
 | str z hz=>cases hm;exact iteT ⟨by show 2≤sizeLine;decide,fun t ht=>q t _ (zh ht _) zb⟩
end
noncomputable def JQ:Deed:=fun _ _ m=>match m.st.getLast? with
 | some _=>some (.next,{ m with st:=m.st.dropLast })
 | none=>none
noncomputable def J2 (st:List V) (arg:V):Option (Nat × V):=match arg with
 | .int n=>if 1≤n∧n.toNat≤st.length then (st[st.length - n.toNat]?).map fun v=>(st.length - n.toNat,v) else none
 | _=>none
noncomputable def JR:Deed:=fun _ arg m=>match J2 m.st arg with
 | some (_,v)=>if qC m.st.length=true then some (.next,{ m with st:=m.st++[v] }) else none
 | none=>none
noncomputable def JP:Deed:=fun _ arg m=>match J2 m.st arg,m.st.getLast? with
 | some (j,v),some t=>some (.next,{ m with st:=(m.st.set (m.st.length - 1) v).set j t })
 | _,_=>none
noncomputable def z1i (v:V):Option Str:=match v with
 | .str z=>some (if JI (.str z)=true then z else "Type")
 | _=>some "Type"
noncomputable def ZP:Deed:=fun _ _ m=>match m.st.getLast? with
 | some v=>if jx v=true then (z1i v).map fun k=>(.fault k,{ m with st:=m.st.dropLast }) else none
 | none=>none
theorem JV {st:List V} {n:Int} {j:Nat} {v:V} (h:J2 st (.int n)=some (j,v)):ixN st.length (-n)=some j∧st[j]?=some v:=by
 unfold J2 at h
 dsimp only at h
 by_cases hz:1≤n∧n.toNat≤st.length
 case neg=>rw [kz hz] at h;cases h
 rw [kC hz] at h
 cases e:st[st.length - n.toNat]? with
 | none=>rw [e] at h;cases h
 | some w=>
  rw [e] at h
  cases h
  refine ⟨?_,e⟩
  unfold ixN
  rw [kz (by lia),kC (by lia)]
  congr 1
  lia
section
variable {C:Addr}
theorem sc85:zj ["hold","op","arg"] ["hold","op","arg"] (zd (top 85)):=fsM
theorem z71 (D:zo K mg "do_drop" (top 85)) (c:jJ K C) (cs:Cons K mg):FN P w K mg base 1 "do_drop" ["hold","op","arg"] (zZ K C JQ):=by
 refine FN.o D sc85 fun f cdv A outer s H vs Q E hr h=>?_
 obtain ⟨ho,hl,kd,sl,dx,op,arg,m,res,m',rfl,hA,hg,q⟩:=h
 obtain ⟨na,mn,tn⟩:=cs.next
 refine ⟨_,z8 (zk (qF (zI (pv 0) rfl))) (zc (zm (qh rfl mn (v:=.ref na) rfl))),?_⟩
 try dsimp only [L2.cxOf,L2.Cx.nox]
 unfold JQ at hg
 cases hv:m.st.getLast? with
 | none=>rw [hv] at hg;cases hg
 | some v=>
  rw [hv] at hg
  cases hg
  refine ⟨_,rfl,ho,C,dx,_,.ref hl,rfl,hA.ins,c.cl,c.held,rfl,.inl ⟨rfl,_,SqL.of hA.held⟩,hl,_,_,rfl,rfl,hA.held,zX hv,?_⟩
  exact q na _ (tn.sq _) (hA.setHeld _) zF.a
theorem sc86:zj ["hold","op","arg"] ["hold","op","arg"] (zd (top 86)):=fsM
theorem z75 (D:zo K mg "do_copy" (top 86)) (c:jJ K C) (cs:Cons K mg):FN P w K mg base 1 "do_copy" ["hold","op","arg"] (zZ K C JR):=by
 refine FN.o D sc86 fun f cdv A outer s H vs Q E hr h=>?_
 obtain ⟨ho,hl,kd,sl,dx,op,arg,m,res,m',rfl,hA,hg,q⟩:=h
 obtain ⟨na,mn,tn⟩:=cs.next
 refine ⟨_,z8 (zk (qO (zI (pv 0) rfl) (z6 (zP zL (zI (pv 0) rfl) (Z1 jb (pv 2)) (fun _ _=>rfl)) z7))) (zc (zm (qh rfl mn (v:=.ref na) rfl))),?_⟩
 try dsimp only [L2.cxOf,L2.Cx.nox]
 unfold JR at hg
 cases hd:J2 m.st arg with
 | none=>rw [hd] at hg;cases hg
 | some jv=>
  obtain ⟨j,v⟩:=jv
  rw [hd] at hg
  dsimp only at hg
  by_cases hz:qC m.st.length=true
  case neg=>rw [kz hz] at hg;cases hg
  rw [kC hz] at hg
  cases hg
  obtain ⟨n,rfl⟩:∃n,arg=.int n:=by
   cases arg with
   | int n=>exact ⟨n,rfl⟩
   | _=>cases hd
  obtain ⟨h1,h2⟩:=JV hd
  have hat:atI m.st (-n)=some v:=by
   unfold atI
   rw [h1]
   exact h2
  refine ⟨_,rfl,ho,C,dx,_,.ref hl,rfl,hA.ins,c.cl,c.held,rfl,.inl ⟨rfl,_,SqL.of hA.held⟩,_,rfl,ho,C,dx,_,.ref hl,rfl,hA.ins,c.cl,c.held,rfl,_,rfl,n,rfl,hl,_,_,v,rfl,rfl,SqL.of hA.held,hat,hl,_,_,rfl,rfl,hA.held,qj hz,?_⟩
  exact q na _ (tn.sq _) (hA.setHeld _) zF.a
theorem sc87:zj ["hold","op","arg","held"] ["hold","op","arg"] (zd (top 87)):=fsM
theorem z6I (D:zo K mg "do_swap" (top 87)) (c:jJ K C) (cs:Cons K mg):FN P w K mg base 1 "do_swap" ["hold","op","arg"] (zZ K C JP):=by
 refine FN.o D sc87 fun f cdv A outer s H vs Q E hr h=>?_
 obtain ⟨ho,hl,kd,sl,dx,op,arg,m,res,m',rfl,hA,hg,q⟩:=h
 obtain ⟨na,mn,tn⟩:=cs.next
 refine ⟨_,z8 (zA (i:=3) sc87.nd rfl (Or.inl rfl) (zI (pv 0) rfl))
  (z8 (j6 (zE (z6 (zP zL (pv 3) (Z1 jb (pv 2)) (fun _ _=>rfl)) (z6 (zP zL (pv 3) (Z1 jb zg) (fun _ _=>rfl)) z7))) (jg (n:=2) rfl (zt (Qb (pv 3) (Z1 jb zg) jE) (zt (Qb (pv 3) (Z1 jb (pv 2)) jE) qy))))
  (zc (zm (qh rfl mn (v:=.ref na) rfl)))),?_⟩
 try dsimp only [L2.cxOf,L2.Cx.nox]
 unfold JP at hg
 cases hd:J2 m.st arg with
 | none=>rw [hd] at hg;cases hg
 | some jv=>
  obtain ⟨j,v⟩:=jv
  cases hv:m.st.getLast? with
  | none=>rw [hd,hv] at hg;cases hg
  | some t=>
   rw [hd,hv] at hg
   cases hg
   obtain ⟨n,rfl⟩:∃n,arg=.int n:=by
    cases arg with
    | int n=>exact ⟨n,rfl⟩
    | _=>cases hd
   obtain ⟨h1,h2⟩:=JV hd
   have hat:atI m.st (-n)=some v:=by
    unfold atI
    rw [h1]
    exact h2
   have hne:0 < m.st.length:=by
    have:=(kf.mp (zX hv)).1
    lia
   have hlx:ixN m.st.length (-1)=some (m.st.length - 1):=by
    unfold ixN
    rw [kz (by decide),kC (by lia)]
    congr 1
    lia
   have hlt:atI m.st (-1)=some t:=by
    unfold atI
    rw [hlx]
    exact zX hv
   refine ⟨_,rfl,ho,C,dx,_,.ref hl,rfl,hA.ins,c.cl,c.held,rfl,?_⟩
   refine ⟨_,rfl,_,rfl,n,rfl,hl,_,_,v,rfl,rfl,SqL.of hA.held,hat,_,rfl,1,rfl,hl,_,_,t,rfl,rfl,SqL.of hA.held,hlt,by show 2≤sizeLine;decide,fun tp htp=>?_⟩
   have st:=zh htp (.tup [v,t])
   have hA1:=hA.same st
   refine ⟨tp,_,rfl,SqT.of zb,rfl,_,_,rfl,_,rfl,1,rfl,hl,_,_,m.st.length - 1,rfl,rfl,hA1.held,hlx,?_⟩
   have hA2:=hA1.setHeld (m.st.set (m.st.length - 1) v)
   refine ⟨_,_,rfl,_,rfl,_,rfl,n,rfl,hl,_,_,j,rfl,rfl,hA2.held,by rw [List.length_set];exact h1,?_⟩
   exact ⟨rfl,q na _ (tn.sq _) (hA2.setHeld _) ((zF.of st).trans (zF.a.trans zF.a))⟩
def z2S:Sp:=fun vs H Q _=>∃x k,vs=[x]∧Scal x∧z1i x=some k∧Q (.str k) H
theorem sc68:zj ["value"] ["value"] (zd (top 68)):=fsM
theorem z54 (D:zo K mg "kind_raised" (top 68)) (FK:FN P w K mg base 2 "is_kind" ["thing"] (sp1 JI)):FN P w K mg base 3 "kind_raised" ["value"] z2S:=by
 refine FN.o D sc68 fun f cdv A outer s H vs Q E hr h=>?_
 obtain ⟨x,k,rfl,hx,hk,q⟩:=h
 refine ⟨_,zc (zm (qG (qK (zp FK hr rfl (z6 (pv 0) z7))) (pv 0) zi)),?_⟩
 try dsimp only [L2.cxOf,L2.Cx.nox]
 refine ⟨_,rfl,x,rfl,hx,JI x,rfl,?_⟩
 cases hx with
 | non=>cases hk;exact iteF q
 | bl b=>cases hk;exact iteF q
 | int i=>cases hk;exact iteF q
 | str z hz=>
  cases hk
  cases e:JI (.str z) with
  | true=>rw [e,kC rfl] at q;exact iteT ⟨_,rfl,q⟩
  | false=>rw [e,kz ka] at q;exact iteF q
theorem sc96:zj ["hold","op","arg"] ["hold","op","arg"] (zd (top 96)):=fsM
theorem z4V (D:zo K mg "do_raise" (top 96)) (c:jJ K C) (FK:FN P w K mg base 3 "kind_raised" ["value"] z2S):FN P w K mg base 4 "do_raise" ["hold","op","arg"] (zZ K C ZP):=by
 refine FN.o D sc96 fun f cdv A outer s H vs Q E hr h=>?_
 obtain ⟨ho,hl,kd,sl,dx,op,arg,m,res,m',rfl,hA,hg,q⟩:=h
 refine ⟨_,zc (zm (zE (z6 zi (z6 (zp FK hr rfl (z6 (qF (zI (pv 0) rfl)) z7)) z7)))),?_⟩
 try dsimp only [L2.cxOf,L2.Cx.nox]
 unfold ZP at hg
 cases hv:m.st.getLast? with
 | none=>rw [hv] at hg;cases hg
 | some v=>
  rw [hv] at hg
  dsimp only at hg
  by_cases hz:jx v=true
  case neg=>rw [kz hz] at hg;cases hg
  rw [kC hz] at hg
  cases hk:z1i v with
  | none=>rw [hk] at hg;cases hg
  | some k=>
   rw [hk] at hg
   cases hg
   have h1:=hA.setHeld m.st.dropLast
   refine ⟨_,rfl,ho,C,dx,_,.ref hl,rfl,hA.ins,c.cl,c.held,rfl,.inl ⟨rfl,_,SqL.of hA.held⟩,hl,_,_,rfl,rfl,hA.held,zX hv,v,k,rfl,jl hz,hk,by show 2≤sizeLine;decide,fun p hp=>?_⟩
   have sp:=zh hp (.tup [.str "fault",.str k])
   exact q p _ (SqT.of zb) (h1.same sp) (zF.a.trans (zF.of sp))
end
def qW (H H':Hp) (t:Addr):Prop:=∀b o,H b=some o→b≠t→H' b=some o
noncomputable def pofM (r1 r2:V) (m:Mst):Option (Res × Mst):=match r1 with
 | .non=>if qC m.st.length=true then some (.next,{ m with st:=m.st++[r2] }) else none
 | .str k=>some (.fault k,m)
 | _=>none
noncomputable def gTwo:Deed:=fun op _ m=>match m.st.getLast? with
 | some y=>(match m.st.dropLast.getLast? with
  | some x=>if jx x=true∧jx y=true then (match jm op x y with
   | some (r1,r2)=>pofM r1 r2 { m with st:=m.st.dropLast.dropLast }
   | none=>none) else none
  | none=>none)
 | none=>none
noncomputable def gOne:Deed:=fun op _ m=>match m.st.getLast? with
 | some x=>if jx x=true then (match QJ op x with
   | some (r1,r2)=>pofM r1 r2 { m with st:=m.st.dropLast }
   | none=>none) else none
 | none=>none
section
variable {C:Addr}
def z66 (K:ky) (C:Addr):Sp:=fun vs H Q _=>∃ho hl kd sl dx m ma r1 r2 res m',vs=[.ref ho,.ref ma]∧j4 H C ho hl kd sl dx m∧H ma=some (.tup [r1,r2])∧pofM r1 r2 m=some (res,m')∧
 ∀t H',SqT K H' t (resV res)→j4 H' C ho hl kd sl dx m'→zF H H' hl kd sl→Q (.ref t) H'
theorem sc88:zj ["hold","made","kind","value"] ["hold","made"] (zd (top 88)):=fsM
theorem z8t (D:zo K mg "pushed_or_fault" (top 88)) (c:jJ K C) (cs:Cons K mg):FN P w K mg base 1 "pushed_or_fault" ["hold","made"] (z66 K C):=by
 refine FN.o D sc88 fun f cdv A outer s H vs Q E hr h=>?_
 obtain ⟨ho,hl,kd,sl,dx,m,ma,r1,r2,res,m',rfl,hA,hma,hp,q⟩:=h
 obtain ⟨na,mn,tn⟩:=cs.next
 refine ⟨_,z8 (j6 (pv 1) (jg rfl (zt (zB (i:=2) sc88.nd rfl (Or.inl rfl)) (zt (zB (i:=3) sc88.nd rfl (Or.inl rfl)) qy))))
  (z8 (zD (zl Q4 (pv 2) qc (zn _)) (zc (zm (zE (z6 zi (z6 (pv 2) z7))))) zu)
  (z8 (zk (qO (zI (pv 0) rfl) (z6 (pv 3) z7))) (zc (zm (qh rfl mn (v:=.ref na) rfl))))),?_⟩
 try dsimp only [L2.cxOf,L2.Cx.nox]
 refine ⟨_,rfl,ma,_,rfl,SqT.of hma,rfl,_,_,rfl,_,_,rfl,rfl,?_⟩
 unfold pofM at hp
 cases r1 with
 | non=>
  dsimp only at hp
  by_cases hz:qC m.st.length=true
  case neg=>rw [kz hz] at hp;cases hp
  rw [kC hz] at hp
  cases hp
  refine ⟨_,rfl,rfl,false,rfl,iteF ?_⟩
  refine ⟨_,rfl,ho,C,dx,_,.ref hl,rfl,hA.ins,c.cl,c.held,rfl,.inl ⟨rfl,_,SqL.of hA.held⟩,_,rfl,hl,_,_,rfl,rfl,hA.held,qj hz,?_⟩
  exact q na _ (tn.sq _) (hA.setHeld _) zF.a
 | str k=>
  cases hp
  refine ⟨_,rfl,rfl,true,rfl,iteT ⟨_,rfl,by show 2≤sizeLine;decide,fun p hp=>?_⟩⟩
  have sp:=zh hp (.tup [.str "fault",.str k])
  exact q p _ (SqT.of zb) (hA.same sp) (zF.of sp)
 | _=>cases hp
theorem sc89:zj ["hold","op","arg","second","first"] ["hold","op","arg"] (zd (top 89)):=fsM
theorem z8o (D:zo K mg "do_two" (top 89)) (c:jJ K C) (FM:FN P w K mg base 2 "made_of_two" ["op","first","second"] z2Q) (FP:FN P w K mg base 1 "pushed_or_fault" ["hold","made"] (z66 K C)):FN P w K mg base 3 "do_two" ["hold","op","arg"] (zZ K C gTwo):=by
 refine FN.o D sc89 fun f cdv A outer s H vs Q E hr h=>?_
 obtain ⟨ho,hl,kd,sl,dx,op,arg,m,res,m',rfl,hA,hg,q⟩:=h
 refine ⟨_,z8 (zA (i:=3) sc89.nd rfl (Or.inl rfl) (qF (zI (pv 0) rfl)))
  (z8 (zA (i:=4) sc89.nd rfl (Or.inl rfl) (qF (zI (pv 0) rfl)))
  (zc (zm (zp FP (hr.mono (by decide)) rfl (z6 (pv 0) (z6 (zp FM hr rfl (z6 (pv 1) (z6 (pv 4) (z6 (pv 3) z7)))) z7)))))),?_⟩
 try dsimp only [L2.cxOf,L2.Cx.nox]
 unfold gTwo at hg
 cases hv:m.st.getLast? with
 | none=>rw [hv] at hg;cases hg
 | some y=>
  rw [hv] at hg
  dsimp only at hg
  cases hv2:m.st.dropLast.getLast? with
  | none=>rw [hv2] at hg;cases hg
  | some x=>
   rw [hv2] at hg
   dsimp only at hg
   by_cases hz:jx x=true∧jx y=true
   case neg=>rw [kz hz] at hg;cases hg
   rw [kC hz] at hg
   cases hm:jm op x y with
   | none=>rw [hm] at hg;cases hg
   | some r=>
    obtain ⟨r1,r2⟩:=r
    rw [hm] at hg
    dsimp only at hg
    have h1:=hA.setHeld m.st.dropLast
    have h2:=h1.setHeld m.st.dropLast.dropLast
    refine ⟨_,rfl,ho,C,dx,_,.ref hl,rfl,hA.ins,c.cl,c.held,rfl,.inl ⟨rfl,_,SqL.of hA.held⟩,hl,_,_,rfl,rfl,hA.held,zX hv,?_⟩
    refine ⟨_,rfl,ho,C,dx,_,.ref hl,rfl,h1.ins,c.cl,c.held,rfl,.inl ⟨rfl,_,SqL.of h1.held⟩,hl,_,_,rfl,rfl,h1.held,zX hv2,?_⟩
    refine ⟨_,rfl,_,rfl,_,rfl,_,rfl,op,x,y,r1,r2,rfl,jl hz.1,jl hz.2,hm,fun t H' s' ht=>?_⟩
    exact ⟨ho,hl,kd,sl,dx,_,t,r1,r2,res,m',rfl,h2.same s',ht,hg,fun t2 H2 a b r=>q t2 H2 a b ((zF.a.trans zF.a).trans ((zF.of s').trans r))⟩
theorem sc90:zj ["hold","op","arg"] ["hold","op","arg"] (zd (top 90)):=fsM
theorem z8u (D:zo K mg "do_one" (top 90)) (c:jJ K C) (FM:FN P w K mg base 2 "made_of_one" ["op","value"] z2R) (FP:FN P w K mg base 1 "pushed_or_fault" ["hold","made"] (z66 K C)):FN P w K mg base 3 "do_one" ["hold","op","arg"] (zZ K C gOne):=by
 refine FN.o D sc90 fun f cdv A outer s H vs Q E hr h=>?_
 obtain ⟨ho,hl,kd,sl,dx,op,arg,m,res,m',rfl,hA,hg,q⟩:=h
 refine ⟨_,zc (zm (zp FP (hr.mono (by decide)) rfl (z6 (pv 0) (z6 (zp FM hr rfl (z6 (pv 1) (z6 (qF (zI (pv 0) rfl)) z7))) z7)))),?_⟩
 try dsimp only [L2.cxOf,L2.Cx.nox]
 unfold gOne at hg
 cases hv:m.st.getLast? with
 | none=>rw [hv] at hg;cases hg
 | some x=>
  rw [hv] at hg
  dsimp only at hg
  by_cases hz:jx x=true
  case neg=>rw [kz hz] at hg;cases hg
  rw [kC hz] at hg
  cases hm:QJ op x with
  | none=>rw [hm] at hg;cases hg
  | some r=>
   obtain ⟨r1,r2⟩:=r
   rw [hm] at hg
   dsimp only at hg
   have h1:=hA.setHeld m.st.dropLast
   refine ⟨_,rfl,_,rfl,_,rfl,ho,C,dx,_,.ref hl,rfl,hA.ins,c.cl,c.held,rfl,.inl ⟨rfl,_,SqL.of hA.held⟩,hl,_,_,rfl,rfl,hA.held,zX hv,op,x,r1,r2,rfl,jl hz,hm,fun t H' s' ht=>?_⟩
   exact ⟨ho,hl,kd,sl,dx,_,t,r1,r2,res,m',rfl,h1.same s',ht,hg,fun t2 H2 a b r=>q t2 H2 a b (zF.a.trans ((zF.of s').trans r))⟩
end
structure DAd where
 (push load quick store clear drop copy swap two one tell jump if_ or_ ret rais:Addr)
noncomputable def ZU (a:DAd):List (Str × V):=[("push",.ref a.push),("load",.ref a.load),("quick",.ref a.quick),("store",.ref a.store),("clear",.ref a.clear),("drop",.ref a.drop),("copy",.ref a.copy),("swap",.ref a.swap),("add",.ref a.two),("sub",.ref a.two),("mul",.ref a.two),("div",.ref a.two),("rest",.ref a.two),("less",.ref a.two),("same",.ref a.two),("neg",.ref a.one),("not",.ref a.one),("tell",.ref a.tell),("jump",.ref a.jump),("iftrue",.ref a.if_),("iffalse",.ref a.if_),("ortrue",.ref a.or_),("orfalse",.ref a.or_),("return",.ref a.ret),("raise",.ref a.rais)]
structure z8Q (w:World) (K:ky) (mg:Str→Option Value) (a:DAd):Prop where
 deeds:∃d,mg "DEEDS"=some (.ref d)∧KTab w.params K d (ZU a)
 push:mg "do_push"=some (.ref a.push)
 load:mg "do_load"=some (.ref a.load)
 quick:mg "do_quick"=some (.ref a.quick)
 store:mg "do_store"=some (.ref a.store)
 clear:mg "do_clear"=some (.ref a.clear)
 tell:mg "do_tell"=some (.ref a.tell)
 if_:mg "do_if"=some (.ref a.if_)
 or_:mg "do_or"=some (.ref a.or_)
 ret:mg "do_return"=some (.ref a.ret)
 two:mg "do_two"=some (.ref a.two)
 one:mg "do_one"=some (.ref a.one)
 jump:mg "do_jump"=some (.ref a.jump)
 drop:mg "do_drop"=some (.ref a.drop)
 copy:mg "do_copy"=some (.ref a.copy)
 swap:mg "do_swap"=some (.ref a.swap)
 rais:mg "do_raise"=some (.ref a.rais)
noncomputable def jo:List Str:=["add","sub","mul","div","rest","less","same"]
noncomputable def jK:List Str:=["neg","not"]
noncomputable def rowM:Deed:=fun op arg m=>
 if op∈jo then gTwo op arg m else if op∈jK then gOne op arg m else if op="push" then z0z op arg m else if op="load" then J1 op arg m else if op="quick" then ZQ op arg m else if op="store" then ZO op arg m else if op="clear" then Zl op arg m
 else if op="tell" then JO op arg m else if op="iftrue" then gIf op arg m else if op="iffalse" then gIf op arg m else if op="ortrue" then gOr op arg m else if op="orfalse" then gOr op arg m else if op="return" then jS op arg m else if op="jump" then z2u op arg m else if op="drop" then JQ op arg m else if op="copy" then JR op arg m else if op="swap" then JP op arg m else if op="raise" then ZP op arg m else none
section
variable {C:Addr}
theorem sc98:zj ["hold","op","arg","deed"] ["hold","op","arg"] (zd (top 98)):=fsM
theorem z56 {ad:DAd} (D:zo K mg "do_row" (top 98)) (T:z8Q w K mg ad) (F1:FN P w K mg base 1 "do_push" ["hold","op","arg"] (zZ K C z0z)) (F2:FN P w K mg base 1 "do_load" ["hold","op","arg"] (zZ K C J1)) (F3:FN P w K mg base 1 "do_quick" ["hold","op","arg"] (zZ K C ZQ))
  (F4:FN P w K mg base 1 "do_store" ["hold","op","arg"] (zZ K C ZO)) (F5:FN P w K mg base 1 "do_clear" ["hold","op","arg"] (zZ K C Zl)) (F6:FN P w K mg base 1 "do_tell" ["hold","op","arg"] (zZ K C JO)) (F7:FN P w K mg base 2 "do_if" ["hold","op","arg"] (zZ K C gIf))
  (F8:FN P w K mg base 2 "do_or" ["hold","op","arg"] (zZ K C gOr)) (F9:FN P w K mg base 1 "do_return" ["hold","op","arg"] (zZ K C jS))
  (F10:FN P w K mg base 3 "do_two" ["hold","op","arg"] (zZ K C gTwo)) (F11:FN P w K mg base 3 "do_one" ["hold","op","arg"] (zZ K C gOne)) (F12:FN P w K mg base 1 "do_jump" ["hold","op","arg"] (zZ K C z2u))
  (F13:FN P w K mg base 1 "do_drop" ["hold","op","arg"] (zZ K C JQ)) (F14:FN P w K mg base 1 "do_copy" ["hold","op","arg"] (zZ K C JR)) (F15:FN P w K mg base 1 "do_swap" ["hold","op","arg"] (zZ K C JP)) (F16:FN P w K mg base 4 "do_raise" ["hold","op","arg"] (zZ K C ZP)):FN P w K mg base 5 "do_row" ["hold","op","arg"] (zZ K C rowM):=by
 refine FN.o D sc98 fun f cdv A outer s H vs Q E hr h=>?_
 obtain ⟨ho,hl,kd,sl,dx,op,arg,m,res,m',rfl,hA,hg,q⟩:=h
 obtain ⟨d,md,td⟩:=T.deeds
 refine ⟨_,z8 (zA (i:=3) sc98.nd rfl (Or.inl rfl) (Jy td rfl md (pv 1) (fun _ _=>rfl))) (zc (zm (JB (pv 3) (z6 (pv 0) (z6 (pv 1) (z6 (pv 2) z7)))))),?_⟩
 try dsimp only [L2.cxOf,L2.Cx.nox]
 suffices h:∃(g:Deed) (name:Str) (fa:Addr),FN P w K mg base 4 name ["hold","op","arg"] (zZ K C g)∧mg name=some (.ref fa)∧(ZU ad).lookup op=some (.ref fa)∧g op arg m=some (res,m') by
  obtain ⟨g,name,fa,⟨f',fd,a,b,c,d'⟩,e1,e2,e3⟩:=h
  rw [a] at e1
  cases e1
  exact ⟨_,rfl,op,_,rfl,e2,fa,fd,_,_,4,rfl,b,d',hr,c,_,rfl,_,rfl,_,rfl,ho,hl,kd,sl,dx,op,arg,m,res,m',rfl,hA,e3,q⟩
 unfold rowM at hg
 by_cases h1:op∈jo
 ·rw [kC h1] at hg
  refine ⟨gTwo,_,_,F10.mono (by decide),T.two,?_,hg⟩
  have all:∀o∈jo,(ZU ad).lookup o=some (.ref ad.two):=by
   intro o ho
   unfold jo at ho
   simp only [kF,kq,or_false] at ho
   rcases ho with h | h | h | h | h | h | h <;> (rw [h];rfl)
  exact all op h1
 rw [kz h1] at hg
 by_cases h1:op∈jK
 ·rw [kC h1] at hg
  refine ⟨gOne,_,_,F11.mono (by decide),T.one,?_,hg⟩
  have all:∀o∈jK,(ZU ad).lookup o=some (.ref ad.one):=by
   intro o ho
   unfold jK at ho
   simp only [kF,kq,or_false] at ho
   rcases ho with h | h <;> (rw [h];rfl)
  exact all op h1
 rw [kz h1] at hg
 by_cases h1:op="push"
 ·rw [kC h1] at hg;exact ⟨z0z,_,_,F1.mono (by decide),T.push,by rw [h1];rfl,hg⟩
 rw [kz h1] at hg
 by_cases h1:op="load"
 ·rw [kC h1] at hg;exact ⟨J1,_,_,F2.mono (by decide),T.load,by rw [h1];rfl,hg⟩
 rw [kz h1] at hg
 by_cases h1:op="quick"
 ·rw [kC h1] at hg;exact ⟨ZQ,_,_,F3.mono (by decide),T.quick,by rw [h1];rfl,hg⟩
 rw [kz h1] at hg
 by_cases h1:op="store"
 ·rw [kC h1] at hg;exact ⟨ZO,_,_,F4.mono (by decide),T.store,by rw [h1];rfl,hg⟩
 rw [kz h1] at hg
 by_cases h1:op="clear"
 ·rw [kC h1] at hg;exact ⟨Zl,_,_,F5.mono (by decide),T.clear,by rw [h1];rfl,hg⟩
 rw [kz h1] at hg
 by_cases h1:op="tell"
 ·rw [kC h1] at hg;exact ⟨JO,_,_,F6.mono (by decide),T.tell,by rw [h1];rfl,hg⟩
 rw [kz h1] at hg
 by_cases h1:op="iftrue"
 ·rw [kC h1] at hg;exact ⟨gIf,_,_,F7.mono (by decide),T.if_,by rw [h1];rfl,hg⟩
 rw [kz h1] at hg
 by_cases h1:op="iffalse"
 ·rw [kC h1] at hg;exact ⟨gIf,_,_,F7.mono (by decide),T.if_,by rw [h1];rfl,hg⟩
 rw [kz h1] at hg
 by_cases h1:op="ortrue"
 ·rw [kC h1] at hg;exact ⟨gOr,_,_,F8.mono (by decide),T.or_,by rw [h1];rfl,hg⟩
 rw [kz h1] at hg
 by_cases h1:op="orfalse"
 ·rw [kC h1] at hg;exact ⟨gOr,_,_,F8.mono (by decide),T.or_,by rw [h1];rfl,hg⟩
 rw [kz h1] at hg
 by_cases h1:op="return"
 ·rw [kC h1] at hg;exact ⟨jS,_,_,F9.mono (by decide),T.ret,by rw [h1];rfl,hg⟩
 rw [kz h1] at hg
 by_cases h1:op="jump"
 ·rw [kC h1] at hg;exact ⟨z2u,_,_,F12.mono (by decide),T.jump,by rw [h1];rfl,hg⟩
 rw [kz h1] at hg
 by_cases h1:op="drop"
 ·rw [kC h1] at hg;exact ⟨JQ,_,_,F13.mono (by decide),T.drop,by rw [h1];rfl,hg⟩
 rw [kz h1] at hg
 by_cases h1:op="copy"
 ·rw [kC h1] at hg;exact ⟨JR,_,_,F14.mono (by decide),T.copy,by rw [h1];rfl,hg⟩
 rw [kz h1] at hg
 by_cases h1:op="swap"
 ·rw [kC h1] at hg;exact ⟨JP,_,_,F15.mono (by decide),T.swap,by rw [h1];rfl,hg⟩
 rw [kz h1] at hg
 by_cases h1:op="raise"
 ·rw [kC h1] at hg;exact ⟨ZP,_,_,F16,T.rais,by rw [h1];rfl,hg⟩
 rw [kz h1] at hg
 cases hg
end
noncomputable def z3X (s:Stmt):List Stmt:=match s with
 | .ClassDef _ _ _ b _ _ _ _ _ _ _=>b
 | _=>[]
noncomputable def mW (i:Nat):Stmt:=(z3X (top 99)).getD i (.Pass ⟨0,0,0,0⟩)
noncomputable def mH (i:Nat):Stmt:=(z3X (top 79)).getD i (.Pass ⟨0,0,0,0⟩)
def MN (P:Program) (w:World) (K:ky) (mg:Str→Option Value) (base:Heap) (k:Nat) (C:Addr) (m:Str) (ps:List Str) (sp:Sp):Prop:=∃f fd,Meth K C m f∧Zd K fd ps []∧FnOk P w K mg base CX0 k f fd ps sp
def HasM (K:ky) (C:Addr) (m qual:Str) (st:Stmt):Prop:=∃f fd,Fun K m qual st f fd∧Meth K C m f
def IN (P:Program) (w:World) (K:ky) (mg:Str→Option Value) (base:Heap) (k:Nat) (C:Addr) (ps:List Str) (sp:Sp):Prop:=∃f fd,Mk K C f∧Zd K fd ps []∧FnOk P w K mg base CX0 k f fd ps sp
def HasI (K:ky) (C:Addr) (qual:Str) (st:Stmt):Prop:=∃f fd,Fun K "__init__" qual st f fd∧Mk K C f
section
variable {C:Addr}
theorem MN.of {m qual:Str} {st:Stmt} {N ps:List Str} {sp:Sp} {k:Nat} (D:HasM K C m qual st) (S:zj N ps (zd st))
  (hb:∀(kV doc pm:Value) (an:Option Addr) (cdv ct:Value) (us:List Value),us.length=ps.length→bindArgs (PySem.W.fnOf m qual (qz st) (zN st) (zd st) .none kV doc pm an cdv ct) ⟨us,[]⟩=pure (ps.zip us))
  (len:∀vs H Q E,sp vs H Q E→vs.length=ps.length)
  (hbody:∀(f:Addr) (cdv:Value) (A:Around) (outer:List Env) (s:Shared) (H:Hp) (vs:List V) (Q:VK) (E:XK),Room k (A.deeper (envOfC qual (zd st) s.heap.objs.size f cdv))→sp vs H Q E→
   ∃t,PSs (cxOf CX0 P w K mg base N qual (zd st) f cdv A outer s H E).nox (zN st) t∧t { nx:=fun _ H'=>Q .non H',rt:=Q } (L2.jO N vs) H):MN P w K mg base (k+1) C m ps sp:=by
 obtain ⟨f,fd,F,m⟩:=D
 exact ⟨f,fd,m,F.binds hb,F.ok S len (hbody f)⟩
theorem MN.o {m qual:Str} {st:Stmt} {N ps:List Str} {sp:Sp} {k:Nat} (D:HasM K C m qual st) (S:zj N ps (zd st))
  (hbody:∀(f:Addr) (cdv:Value) (A:Around) (outer:List Env) (s:Shared) (H:Hp) (vs:List V) (Q:VK) (E:XK),Room k (A.deeper (envOfC qual (zd st) s.heap.objs.size f cdv))→sp vs H Q E→
   ∃t,PSs (cxOf CX0 P w K mg base N qual (zd st) f cdv A outer s H E).nox (zN st) t∧t { nx:=fun _ H'=>Q .non H',rt:=Q } (L2.jO N vs) H)
  (hb:∀(kV doc pm:Value) (an:Option Addr) (cdv ct:Value) (us:List Value),us.length=ps.length→bindArgs (PySem.W.fnOf m qual (qz st) (zN st) (zd st) .none kV doc pm an cdv ct) ⟨us,[]⟩=pure (ps.zip us):=by (first | exact fun _ _ _ _ _ _=>zU1 fun _=>rfl | exact fun _ _ _ _ _ _=>zU2 fun _ _=>rfl | exact fun _ _ _ _ _ _=>zU3 fun _ _ _=>rfl | exact fun _ _ _ _ _ _=>zU4 fun _ _ _ _=>rfl | exact fun _ _ _ _ _ _=>zU5 fun _ _ _ _ _=>rfl))
  (len:∀vs H Q E,sp vs H Q E→vs.length=ps.length:=by (intro vs H Q E h;repeat (first | (obtain ⟨e,_⟩:=h;subst e;rfl) | (obtain ⟨_,h⟩:=h)))):MN P w K mg base (k+1) C m ps sp:=MN.of D S hb len hbody
theorem IN.of {qual:Str} {st:Stmt} {N ps:List Str} {sp:Sp} {k:Nat} (D:HasI K C qual st) (S:zj N ps (zd st))
  (hb:∀(kV doc pm:Value) (an:Option Addr) (cdv ct:Value) (us:List Value),us.length=ps.length→bindArgs (PySem.W.fnOf "__init__" qual (qz st) (zN st) (zd st) .none kV doc pm an cdv ct) ⟨us,[]⟩=pure (ps.zip us))
  (len:∀vs H Q E,sp vs H Q E→vs.length=ps.length)
  (hbody:∀(f:Addr) (cdv:Value) (A:Around) (outer:List Env) (s:Shared) (H:Hp) (vs:List V) (Q:VK) (E:XK),Room k (A.deeper (envOfC qual (zd st) s.heap.objs.size f cdv))→sp vs H Q E→
   ∃t,PSs (cxOf CX0 P w K mg base N qual (zd st) f cdv A outer s H E).nox (zN st) t∧t { nx:=fun _ H'=>Q .non H',rt:=Q } (L2.jO N vs) H):IN P w K mg base (k+1) C ps sp:=by
 obtain ⟨f,fd,F,m⟩:=D
 exact ⟨f,fd,m,F.binds hb,F.ok S len (hbody f)⟩
theorem IN.o {qual:Str} {st:Stmt} {N ps:List Str} {sp:Sp} {k:Nat} (D:HasI K C qual st) (S:zj N ps (zd st))
  (hbody:∀(f:Addr) (cdv:Value) (A:Around) (outer:List Env) (s:Shared) (H:Hp) (vs:List V) (Q:VK) (E:XK),Room k (A.deeper (envOfC qual (zd st) s.heap.objs.size f cdv))→sp vs H Q E→
   ∃t,PSs (cxOf CX0 P w K mg base N qual (zd st) f cdv A outer s H E).nox (zN st) t∧t { nx:=fun _ H'=>Q .non H',rt:=Q } (L2.jO N vs) H)
  (hb:∀(kV doc pm:Value) (an:Option Addr) (cdv ct:Value) (us:List Value),us.length=ps.length→bindArgs (PySem.W.fnOf "__init__" qual (qz st) (zN st) (zd st) .none kV doc pm an cdv ct) ⟨us,[]⟩=pure (ps.zip us):=by (first | exact fun _ _ _ _ _ _=>zU1 fun _=>rfl | exact fun _ _ _ _ _ _=>zU2 fun _ _=>rfl | exact fun _ _ _ _ _ _=>zU3 fun _ _ _=>rfl | exact fun _ _ _ _ _ _=>zU4 fun _ _ _ _=>rfl | exact fun _ _ _ _ _ _=>zU5 fun _ _ _ _ _=>rfl))
  (len:∀vs H Q E,sp vs H Q E→vs.length=ps.length:=by (intro vs H Q E h;repeat (first | (obtain ⟨e,_⟩:=h;subst e;rfl) | (obtain ⟨_,h⟩:=h)))):IN P w K mg base (k+1) C ps sp:=IN.of D S hb len hbody
end
section
variable {X:Cx} {k:Nat} {C:Addr} {x m:Str} {ps:List Str} {sp:Sp} {p pos apos:Pos} {o e:Expr} {es:List Expr} {ta:TE} {t:TA}
theorem z1a {pl:Sem Bool} (he:PE X o ta) (c:Cls X.K C) (F:MN X.prog X.w X.K X.mg X.base k C m ps sp) (hr:Room k X.A) (ha:PA X (e :: es) t)
  (hst:autoParam (starEach (e :: es) X.env=(false,eval e X.env) :: starEach es X.env) aR._auto_1) (hpl:autoParam ((backTo pos (starEach es X.env)).any (·.1)=false) aR._auto_1)
  (ht:autoParam (eval (.Call (.Attribute o m apos) (e :: es) [] pos) X.env=(do
   let ov ←eval o X.env
   standAt apos.atName
   let (f,first) ←holding [ov] (getMethod ov m pl)
   callWith pos f first (backTo pos (starEach (e :: es) X.env)) (backToKw pos (keywordEach [] X.env)))) aR._auto_1):
  PE X (.Call (.Attribute o m apos) (e :: es) [] pos) (z26 C m sp [] E0 ta t):=by
 obtain ⟨f,fd,hm,hb,F⟩:=F
 exact z6n he c hm F hr hb .nil z2e ha hst hpl ht
theorem z1D {pl:Sem Bool} (he:PE X o ta) (c:Cls X.K C) (F:MN X.prog X.w X.K X.mg X.base k C m ps sp) (hr:Room k X.A)
  (ht:autoParam (eval (.Call (.Attribute o m apos) [] [] pos) X.env=(do
   let ov ←eval o X.env
   standAt apos.atName
   let (f,first) ←holding [ov] (getMethod ov m pl)
   callWith pos f first (backTo pos (starEach [] X.env)) (backToKw pos (keywordEach [] X.env)))) aR._auto_1):
  PE X (.Call (.Attribute o m apos) [] [] pos) (z26 C m sp [] E0 ta tNil):=by
 obtain ⟨f,fd,hm,hb,F⟩:=F
 exact z4t he c hm F hr hb .nil z2e ht
theorem z7Z (F:IN X.prog X.w X.K X.mg X.base k C ps sp) (hr:Room (k+1) X.A) (hg:Gl X x) (hm:X.mg x=some (.ref C)) (ha:PA X (e :: es) t) (hdb:autoParam ((x == ("__debug__":Str))=false) aR._auto_2)
  (he:autoParam (starEach (e :: es) X.env=(false,eval e X.env) :: starEach es X.env) aR._auto_1) (hpl:autoParam ((backTo pos (starEach es X.env)).any (·.1)=false) aR._auto_1):
  PE X (.Call (.Name x p) (e :: es) [] pos) (z7t C sp [] E0 t):=by
 obtain ⟨f,fd,M,hb,F⟩:=F
 exact z6o M F hr hg hm hb .nil z2e ha hdb he hpl
end
section
variable {C:Addr}
theorem Z9 {X:Cx}:ZY X (.type "dict") (fun xs H Q=>∃a kvs,xs=[V.ref a]∧Rd H a (.dK kvs)∧∀p,H p=none→Q (.ref p) (upd H p (.dK kvs))):=by
 intro pins s σ H xs us Q I r h
 obtain ⟨a,kvs,rfl,e,q⟩:=h
 obtain ⟨u,rfl,ru⟩:=Jo r
 cases ru
 exact z5g I e fun p s' hp I'=>⟨.ref p,_,I',rfl,q p hp⟩
def z5A (C:Addr):Sp:=fun vs H Q _=>∃x d dx kvs,vs=[.ref x,.ref d]∧H x=some (.ins C dx [])∧H d=some (.dK kvs)∧
 ∀hl kd sl H',H hl=none→H kd=none→H sl=none→j4 H' C x hl kd sl dx ⟨[],kvs,[]⟩→(∀b o,H b=some o→b≠x→H' b=some o)→Q .non H'
theorem scH:zj ["self","names"] ["self","names"] (zd (mH 0)):=fsM
theorem z6B (D:HasI K C "Hold.__init__" (mH 0)) (c:jJ K C) (G:Glo mg):IN P w K mg base 1 C ["self","names"] (z5A C):=by
 refine IN.o D scH fun f cdv A outer s H vs Q E hr h=>?_
 obtain ⟨x,d,dx,kvs,rfl,hx,hd,q⟩:=h
 refine ⟨_,z8 (jp (pv 0) (qu z7) rfl) (z8 (jp (pv 0) (ji Z9 rfl G.dict ZW (z6 (pv 1) z7)) rfl) (zc (jp (pv 0) (qu z7) rfl))),?_⟩
 try dsimp only [L2.cxOf,L2.Cx.nox]
 refine ⟨by show 0≤sizeLine;decide,fun hl hhl=>?_⟩
 have nxl:x≠hl:=ze hx hhl
 have ndl:d≠hl:=ze hd hhl
 have ndx:d≠x:=zC hd hx nofun
 refine ⟨_,rfl,x,C,dx,[],rfl,by rw [zf nxl];exact hx,c.cl,c.held,by decide,?_⟩
 refine ⟨_,rfl,d,kvs,rfl,.inl (by rw [zf ndx,zf ndl];exact hd),fun kd hkd=>?_⟩
 have nkx:kd≠x:=fun z=>by rw [z,zb] at hkd;cases hkd
 have hkd1:(upd H hl (.lst [])) kd=none:=by rw [zf nkx] at hkd;exact hkd
 have nkl:kd≠hl:=fun z=>by rw [z,zb] at hkd1;cases hkd1
 have hkd0:H kd=none:=by rw [zf nkl] at hkd1;exact hkd1
 refine ⟨_,rfl,x,C,dx,_,rfl,by rw [zf nkx.symm];exact zb,c.cl,c.known,(by show 1 < 1000;decide),?_⟩
 refine ⟨by show 0≤sizeLine;decide,fun sl hsl=>?_⟩
 have nsx:sl≠x:=fun z=>by rw [z,zb] at hsl;cases hsl
 have hsl1:=hsl
 rw [zf nsx] at hsl1
 have nsk:sl≠kd:=fun z=>by rw [z,zb] at hsl1;cases hsl1
 rw [zf nsk,zf nsx] at hsl1
 have nsl:sl≠hl:=fun z=>by rw [z,zb] at hsl1;cases hsl1
 rw [zf nsl] at hsl1
 refine ⟨_,rfl,x,C,dx,_,rfl,by rw [zf nsx.symm];exact zb,c.cl,c.said,(by show 2 < 1000;decide),?_⟩
 refine q hl kd sl _ hhl hkd0 hsl1 ⟨zb,?_,?_,?_,nsl.symm⟩ fun b o e hb=>?_
 ·rw [zf nxl.symm,zf nsl.symm,zf nxl.symm,zf nkl.symm,zf nxl.symm];exact zb
 ·rw [zf nkx,zf nsk.symm,zf nkx];exact zb
 ·rw [zf nsx];exact zb
 ·rw [zf hb,zf (ze e hsl1),zf hb,zf (ze e hkd0),zf hb,zf (ze e hhl)];exact e
end
structure QW (K:ky) (C:Addr):Prop where
 cl:Cls K C
 rows:jq K C "rows"
 goals:jq K C "goals"
 hold:jq K C "hold"
 wards:jq K C "wards"
 passed:jq K C "passed"
 ending:jq K C "ending"
 here:jq K C "here"
structure WAd where
 (wk dw rl gd ho wl pl hl kd sl dx:Addr)
noncomputable def z2r:Option Nat→V
 | none=>.non
 | some p=>.int (p:Nat)
noncomputable def wfs (a:WAd) (ea:V) (here:V):List (Str × V):=[("rows",.ref a.rl),("goals",.ref a.gd),("hold",.ref a.ho),("wards",.ref a.wl),("passed",.ref a.pl),("ending",ea),("here",here)]
structure qg (K:ky) (H0 H:Hp) (CW CH:Addr) (a:WAd) (rs:List Row) (m:Mst) (gs:List Gd) (pas:List Nat) (e:List V) (here:Option Nat):Prop where
 same:Same H0 H
 f1:H0 a.wk=none
 f2:H0 a.pl=none
 f3:H0 a.hl=none
 f4:H0 a.kd=none
 f5:H0 a.sl=none
 f6:H0 a.wl=none
 f7:H0 a.ho=none
 ins:∃ea,H a.wk=some (.ins CW a.dw (wfs a (.ref ea) (z2r here)))∧SqT K H ea e
 rows:∃as,H a.rl=some (.lst (as.map V.ref))∧zS H as rs
 goals:∃kvs,H a.gd=some (.dK kvs)∧jI kvs rs
 hold:j4 H CH a.ho a.hl a.kd a.sl a.dx m
 wards:∃gas,H a.wl=some (.lst (gas.map V.ref))∧GsIn H gas gs
 passed:H a.pl=some (.lst (pas.map fun p=>V.int (p:Nat)))
 n1:a.rl≠a.hl
 n2:a.rl≠a.sl
 n3:a.rl≠a.pl
 n4:a.wl≠a.hl
 n5:a.wl≠a.sl
 n6:a.wl≠a.pl
 n7:a.pl≠a.hl
 n8:a.pl≠a.sl
 n9:a.gd≠a.kd
 n10:a.wk≠a.ho
 n11:a.rl≠a.wl
section
variable {K:ky} {H0 H H':Hp} {CW CH:Addr} {a:WAd} {rs:List Row} {m m':Mst} {gs gs':List Gd} {pas:List Nat} {e e':List V} {here here':Option Nat}
theorem qg.same' (W:qg K H0 H CW CH a rs m gs pas e here) (s:Same H H'):qg K H0 H' CW CH a rs m gs pas e here:=by
 obtain ⟨ea,i1,i2⟩:=W.ins
 obtain ⟨as,r1,r2⟩:=W.rows
 obtain ⟨kv,g1,g2⟩:=W.goals
 obtain ⟨gas,w1,w2⟩:=W.wards
 exact ⟨W.same.trans s,W.f1,W.f2,W.f3,W.f4,W.f5,W.f6,W.f7,⟨ea,s _ _ i1,jd s i2⟩,⟨as,s _ _ r1,r2.same s⟩,⟨kv,s _ _ g1,g2⟩,W.hold.same s,⟨gas,s _ _ w1,w2.keep (qr.of s)⟩,s _ _ W.passed,W.n1,W.n2,W.n3,W.n4,W.n5,W.n6,W.n7,W.n8,W.n9,W.n10,W.n11⟩
theorem qg.fields (W:qg K H0 H CW CH a rs m gs pas e here) {ea:Addr} (he:SqT K H ea e'):qg K H0 (upd H a.wk (.ins CW a.dw (wfs a (.ref ea) (z2r here')))) CW CH a rs m gs pas e' here':=by
 obtain ⟨ea0,i1,i2⟩:=W.ins
 obtain ⟨as,r1,r2⟩:=W.rows
 obtain ⟨kv,g1,g2⟩:=W.goals
 obtain ⟨gas,w1,w2⟩:=W.wards
 have kt:=qr.upd (o:=.ins CW a.dw (wfs a (.ref ea) (z2r here'))) i1 rfl
 refine ⟨fun b o h=>by rw [zf (ze h W.f1)];exact W.same _ _ h,W.f1,W.f2,W.f3,W.f4,W.f5,W.f6,W.f7,⟨ea,zb,je kt he⟩,⟨as,by rw [zf (zC r1 i1 nofun)];exact r1,r2.keep fun b xs h=>kt _ _ h rfl⟩,
  ⟨kv,by rw [zf (zC g1 i1 nofun)];exact g1,g2⟩,⟨by rw [zf W.n10.symm];exact W.hold.ins,by rw [zf (zC W.hold.held i1 nofun)];exact W.hold.held,by rw [zf (zC W.hold.known i1 nofun)];exact W.hold.known,by rw [zf (zC W.hold.said i1 nofun)];exact W.hold.said,W.hold.ne⟩,
  ⟨gas,by rw [zf (zC w1 i1 nofun)];exact w1,w2.keep kt⟩,by rw [zf (zC W.passed i1 nofun)];exact W.passed,W.n1,W.n2,W.n3,W.n4,W.n5,W.n6,W.n7,W.n8,W.n9,W.n10,W.n11⟩
theorem qg.pass (W:qg K H0 H CW CH a rs m gs pas e here) (p:Nat):qg K H0 (upd H a.pl (.lst ((pas.map fun p=>V.int (p:Nat))++[.int (p:Nat)]))) CW CH a rs m gs (pas++[p]) e here:=by
 obtain ⟨ea,i1,i2⟩:=W.ins
 obtain ⟨as,r1,r2⟩:=W.rows
 obtain ⟨kv,g1,g2⟩:=W.goals
 obtain ⟨gas,w1,w2⟩:=W.wards
 have kt:=qr.upd (o:=.lst ((pas.map fun p=>V.int (p:Nat))++[.int (p:Nat)])) W.passed rfl
 refine ⟨fun b o h=>by rw [zf (ze h W.f2)];exact W.same _ _ h,W.f1,W.f2,W.f3,W.f4,W.f5,W.f6,W.f7,⟨ea,by rw [zf (zC i1 W.passed nofun)];exact i1,je kt i2⟩,⟨as,by rw [zf W.n3];exact r1,r2.keep fun b xs h=>kt _ _ h rfl⟩,
  ⟨kv,by rw [zf (zC g1 W.passed nofun)];exact g1,g2⟩,⟨by rw [zf (zC W.hold.ins W.passed nofun)];exact W.hold.ins,by rw [zf W.n7.symm];exact W.hold.held,by rw [zf (zC W.hold.known W.passed nofun)];exact W.hold.known,by rw [zf W.n8.symm];exact W.hold.said,W.hold.ne⟩,
  ⟨gas,by rw [zf W.n6];exact w1,w2.keep kt⟩,by rw [zb,kL];rfl,W.n1,W.n2,W.n3,W.n4,W.n5,W.n6,W.n7,W.n8,W.n9,W.n10,W.n11⟩
theorem qg.deed (W:qg K H0 H CW CH a rs m gs pas e here) (hA:j4 H' CH a.ho a.hl a.kd a.sl a.dx m') (r:zF H H' a.hl a.kd a.sl):qg K H0 H' CW CH a rs m' gs pas e here:=by
 obtain ⟨ea,i1,i2⟩:=W.ins
 obtain ⟨as,r1,r2⟩:=W.rows
 obtain ⟨kv,g1,g2⟩:=W.goals
 obtain ⟨gas,w1,w2⟩:=W.wards
 have kt:qr H H':=fun b o h t=>r b o h (fun z=>by rw [z,W.hold.held] at h;cases h;cases t) (fun z=>by rw [z,W.hold.known] at h;cases h;cases t) (fun z=>by rw [z,W.hold.said] at h;cases h;cases t)
 refine ⟨fun b o h=>r b o (W.same _ _ h) (ze h W.f3) (ze h W.f4) (ze h W.f5),W.f1,W.f2,W.f3,W.f4,W.f5,W.f6,W.f7,
  ⟨ea,r _ _ i1 (zC i1 W.hold.held nofun) (zC i1 W.hold.known nofun) (zC i1 W.hold.said nofun),je kt i2⟩,⟨as,r _ _ r1 W.n1 (zC r1 W.hold.known nofun) W.n2,r2.keep fun b xs h=>kt _ _ h rfl⟩,
  ⟨kv,r _ _ g1 (zC g1 W.hold.held nofun) W.n9 (zC g1 W.hold.said nofun),g2⟩,hA,⟨gas,r _ _ w1 W.n4 (zC w1 W.hold.known nofun) W.n5,w2.keep kt⟩,r _ _ W.passed W.n7 (zC W.passed W.hold.known nofun) W.n8,
  W.n1,W.n2,W.n3,W.n4,W.n5,W.n6,W.n7,W.n8,W.n9,W.n10,W.n11⟩
theorem qg.ward (W:qg K H0 H CW CH a rs m gs pas e here) (k:qW H H' a.wl) {gas':List Addr} (h1:H' a.wl=some (.lst (gas'.map V.ref))) (h2:GsIn H' gas' gs'):qg K H0 H' CW CH a rs m gs' pas e here:=by
 obtain ⟨ea,i1,i2⟩:=W.ins
 obtain ⟨as,r1,r2⟩:=W.rows
 obtain ⟨kv,g1,g2⟩:=W.goals
 obtain ⟨gas,w1,w2⟩:=W.wards
 have kt:qr H H':=fun b o h t=>k b o h (fun z=>by rw [z,w1] at h;cases h;cases t)
 exact ⟨fun b o h=>k b o (W.same _ _ h) (ze h W.f6),W.f1,W.f2,W.f3,W.f4,W.f5,W.f6,W.f7,⟨ea,k _ _ i1 (zC i1 w1 nofun),je kt i2⟩,⟨as,k _ _ r1 W.n11,r2.keep fun b xs h=>kt _ _ h rfl⟩,
  ⟨kv,k _ _ g1 (zC g1 w1 nofun),g2⟩,⟨k _ _ W.hold.ins (zC W.hold.ins w1 nofun),k _ _ W.hold.held W.n4.symm,k _ _ W.hold.known (zC W.hold.known w1 nofun),k _ _ W.hold.said W.n5.symm,W.hold.ne⟩,⟨gas',h1,h2⟩,k _ _ W.passed W.n6.symm,
  W.n1,W.n2,W.n3,W.n4,W.n5,W.n6,W.n7,W.n8,W.n9,W.n10,W.n11⟩
theorem qg.stack (W:qg K H0 H CW CH a rs m gs pas e here) {p:Addr} {xs:List V} (hp:H p=some (.lst xs)) (fp:H0 p=none) (q1:a.rl≠p) (q2:a.wl≠p) (q3:a.pl≠p) (q4:p≠a.sl):
  qg K H0 (upd H a.ho (.ins CH a.dx [("held",.ref p),("known",.ref a.kd),("said",.ref a.sl)])) CW CH { a with hl:=p } rs { m with st:=xs } gs pas e here:=by
 obtain ⟨ea,i1,i2⟩:=W.ins
 obtain ⟨as,r1,r2⟩:=W.rows
 obtain ⟨kv,g1,g2⟩:=W.goals
 obtain ⟨gas,w1,w2⟩:=W.wards
 have kt:=qr.upd (o:=.ins CH a.dx [("held",.ref p),("known",.ref a.kd),("said",.ref a.sl)]) W.hold.ins rfl
 exact ⟨fun b o h=>by rw [zf (ze h W.f7)];exact W.same _ _ h,W.f1,W.f2,fp,W.f4,W.f5,W.f6,W.f7,⟨ea,by rw [zf W.n10];exact i1,je kt i2⟩,⟨as,by rw [zf (zC r1 W.hold.ins nofun)];exact r1,r2.keep fun b xs h=>kt _ _ h rfl⟩,
  ⟨kv,by rw [zf (zC g1 W.hold.ins nofun)];exact g1,g2⟩,⟨zb,by rw [zf (zC hp W.hold.ins nofun)];exact hp,by rw [zf (zC W.hold.known W.hold.ins nofun)];exact W.hold.known,by rw [zf (zC W.hold.said W.hold.ins nofun)];exact W.hold.said,q4⟩,
  ⟨gas,by rw [zf (zC w1 W.hold.ins nofun)];exact w1,w2.keep kt⟩,by rw [zf (zC W.passed W.hold.ins nofun)];exact W.passed,q1,W.n2,W.n3,q2,W.n5,W.n6,q3,W.n8,W.n9,W.n10,W.n11⟩
end
noncomputable def qN (rs:List Row) (d:Nat):Nat→Nat→List Gd→Option (Nat × List Gd)
 | 0,_,_=>none
 | n+1,p,gs=>match rs[p]? with
  | some r=>if r.op="label" then qN rs d n (p+1) gs
   else if r.op="try" then (match r.arg with | .int k=>if qC gs.length=true then qN rs d n (p+1) (gs++[(k,(d:Int))]) else none | _=>none)
   else if r.op="endtry" then (if gs=[] then none else qN rs d n (p+1) gs.dropLast)
   else some (p,gs)
  | none=>none
noncomputable def jD:List Str:=["label","try","endtry"]
section
variable {CW CH:Addr}
def z0d (K:ky) (CW CH:Addr):Sp:=fun vs H Q _=>∃(wk dw rl wl ho dx hl:Addr) (fs hfs:List (Str × V)) (as gas:List Addr) (rs:List Row) (st:List V) (gs:List Gd) (p n p':Nat) (gs':List Gd),vs=[.ref wk,.int (p:Nat)]∧H wk=some (.ins CW dw fs)∧fs.lookup ("rows":Str)=some (V.ref rl)∧fs.lookup ("wards":Str)=some (V.ref wl)∧fs.lookup ("hold":Str)=some (V.ref ho)∧
 H ho=some (.ins CH dx hfs)∧hfs.lookup ("held":Str)=some (V.ref hl)∧H hl=some (.lst st)∧H rl=some (.lst (as.map V.ref))∧zS H as rs∧H wl=some (.lst (gas.map V.ref))∧GsIn H gas gs∧rl≠wl∧hl≠wl∧qN rs st.length n p gs=some (p',gs')∧
 ∀gas' H',qW H H' wl→H' wl=some (.lst (gas'.map V.ref))→GsIn H' gas' gs'→Q (.int (p':Nat)) H'
theorem scW1:zj ["self","place","op","arg"] ["self","place"] (zd (mW 1)):=fsM
theorem z1S {H:Hp} {gas:List Addr} {gs:List Gd} (h:GsIn H gas gs) (hne:gs≠[]):∃bs a g,gas=bs++[a]∧gs.getLast?=some g∧GsIn H bs gs.dropLast∧H a=some (.tup [.int g.1,.int g.2]):=by
 rcases h.last with ⟨_,e2⟩ | ⟨bs,a,g,e1,e2,e3⟩
 ·exact absurd e2 hne
 ·have hd:=h.dropLast
  rw [e1,kJ] at hd
  exact ⟨bs,a,g,e1,e2,hd,e3⟩
def z8T (H:Hp) (rs:List Row) (d:Nat) (wk wl:Addr) (p':Nat) (gs':List Gd) (k:Nat) (σ:L2.St) (H2:Hp):Prop:=∃p r gs gas,σ=[some (.ref wk),some (.int (p:Nat)),some (.str r.op),some r.arg]∧qN rs d k p gs=some (p',gs')∧rs[p]?=some r∧qW H H2 wl∧H2 wl=some (.lst (gas.map V.ref))∧GsIn H2 gas gs
theorem z9v (W:Nat→L2.St→Hp→Prop) (k:Nat):∃N:L2.St→Hp→Prop,(∀σ' H',N σ' H'→∃m',m' < k+1∧W m' σ' H')∧∀σ' H',W k σ' H'→N σ' H':=⟨W k,fun _ _ h=>⟨k,yd _,h⟩,fun _ _ h=>h⟩
theorem z8d (D:HasM K CW "come_to" "Walk.come_to" (mW 1)) (c:QW K CW) (ch:jJ K CH) (G:Glo mg):MN P w K mg base 1 CW "come_to" ["self","place"] (z0d K CW CH):=by
 refine MN.o D scW1 fun f cdv A outer s H vs Q E hr h=>?_
 obtain ⟨wk,dw,rl,wl,ho,dx,hl,fs,hfs,as,gas,rs,st,gs,p,n,p',gs',rfl,i1,fr,fw,fh,j1,fl,hst,r1,r2,w1,w2,nrw,nlw,hcm,q⟩:=h
 refine ⟨_,z8 (ZD (i:=2) (j:=3) rfl scW1.nd rfl rfl (by decide) rfl rfl (z6 (zP qo (zP zL (zI (pv 0) rfl) (pv 1) (fun _ _=>rfl)) zg (fun _ _=>rfl)) (z6 (zP qo (zP zL (zI (pv 0) rfl) (pv 1) (fun _ _=>rfl)) zg (fun _ _=>rfl)) z7)) rfl)
  (z8 (ZC PassesOwn.never (zl qx (pv 2) (zE (z6 zi (z6 zi (z6 zi z7)))) rfl)
   (z8 (zD (zl zT (pv 2) zi (zn _)) (zc (zk (qO (zI (pv 0) rfl) (z6 (zE (z6 (pv 3) (z6 (zy zQ rfl G.len qt (z6 (zI (zI (pv 0) rfl) rfl) z7)) z7))) z7))))
    (zc (zD (zl zT (pv 2) zi (zn _)) (zc (zk (qF (zI (pv 0) rfl)))) zu)))
   (z8 (z7U (i:=1) scW1.nd rfl (Or.inl rfl) zg z8l)
   (zc (ZD (i:=2) (j:=3) rfl scW1.nd rfl rfl (by decide) rfl rfl (z6 (zP qo (zP zL (zI (pv 0) rfl) (pv 1) (fun _ _=>rfl)) zg (fun _ _=>rfl)) (z6 (zP qo (zP zL (zI (pv 0) rfl) (pv 1) (fun _ _=>rfl)) zg (fun _ _=>rfl)) z7)) rfl)))))
  (zc (zm (pv 1)))),?_⟩
 try dsimp only [L2.cxOf,L2.Cx.nox]
 have row:∀{p n gs p' gs'} {H2:Hp},qN rs st.length n p gs=some (p',gs')→qW H H2 wl→∃r ra,rs[p]?=some r∧(as.map V.ref)[p]?=some (V.ref ra)∧H2 ra=some (.tup (tupV r)):=fun {p n gs p' gs' H2} h k2=>by
  cases n with
  | zero=>cases h
  | succ n=>
   unfold qN at h
   cases hr:rs[p]? with
   | none=>rw [hr] at h;cases h
   | some r=>
    obtain ⟨ra,e1,e2⟩:=r2.get' hr
    exact ⟨r,ra,rfl,e1,k2 _ _ e2 (zC e2 w1 nofun)⟩
 obtain ⟨r,ra,hrp,hra,har⟩:=row hcm (fun _ _ e _=>e)
 refine ⟨_,rfl,wk,CW,dw,_,.ref rl,rfl,i1,c.cl,c.rows,fr,_,rfl,rl,_,_,_,rfl,rfl,SqL.of r1,zq hra,ra,_,_,_,rfl,rfl,SqT.of har,zq (j:=0) rfl,
  _,rfl,wk,CW,dw,_,.ref rl,rfl,i1,c.cl,c.rows,fr,_,rfl,rl,_,_,_,rfl,rfl,SqL.of r1,zq hra,ra,_,_,_,rfl,rfl,SqT.of har,zq (j:=1) rfl,_,_,rfl,?_⟩
 refine ⟨z8T H rs st.length wk wl p' gs',⟨n,p,r,gs,gas,rfl,hcm,hrp,fun _ _ e _=>e,w1,w2⟩,?_⟩
 clear hrp hra har hcm w2
 rintro k σ H2 ⟨p,r,gs,gas2,rfl,hcm,hrp,k2,v1,v2⟩
 refine ⟨_,rfl,by show 3≤sizeLine;decide,fun t ht=>?_⟩
 have s3:=zh ht (.tup [.str "label",.str "try",.str "endtry"])
 have k3:qW H (upd H2 t (.tup [.str "label",.str "try",.str "endtry"])) wl:=fun b o e h=>s3 _ _ (k2 b o e h)
 have v1':=s3 _ _ v1
 have v2':=v2.same s3
 refine ⟨t,_,rfl,.inr (SqT.of zb),rfl,rfl,inT r.op jD,rfl,?_⟩
 generalize upd H2 t (.tup [.str "label",.str "try",.str "endtry"])=H3 at *
 clear s3 k2 v1 v2 ht
 cases k with
 | zero=>cases hcm
 | succ k=>
  unfold qN at hcm
  rw [hrp] at hcm
  dsimp only at hcm
  refine ite2 (fun cc=>?_) (fun cc=>?_)
  ·have cc:inT r.op jD=true:=cc
   rw [qT] at cc
   obtain ⟨N,hN1,hN2⟩:=z9v (z8T H rs st.length wk wl p' gs') k
   refine ⟨N,hN1,?_⟩
   have i1':=k3 _ _ i1 (zC i1 w1 nofun)
   have j1':=k3 _ _ j1 (zC j1 w1 nofun)
   have hst':=k3 _ _ hst nlw
   have read:∀{gs2:List Gd} {gas3:List Addr} {H4:Hp},qN rs st.length k (p+1) gs2=some (p',gs')→qW H H4 wl→H4 wl=some (.lst (gas3.map V.ref))→GsIn H4 gas3 gs2→
     ∃r' ra',rs[p+1]?=some r'∧(as.map V.ref)[p+1]?=some (V.ref ra')∧H4 ra'=some (.tup (tupV r'))∧H4 wk=some (.ins CW dw fs)∧H4 rl=some (.lst (as.map V.ref)):=fun h k4 _ _=>by
    obtain ⟨r',ra',a1,a2,a3⟩:=row h k4
    exact ⟨r',ra',a1,a2,a3,k4 _ _ i1 (zC i1 w1 nofun),k4 _ _ r1 nrw⟩
   refine ⟨_,rfl,rfl,decide (r.op="try"),congrArg V.bl j9,?_⟩
   by_cases h2:r.op="try"
   ·have n1:¬r.op="label":=by rw [h2];decide+kernel
    rw [kz n1,kC h2] at hcm
    rw [ki h2]
    cases ha:r.arg with
    | int mk=>
     rw [ha] at hcm
     dsimp only at hcm
     by_cases hz:qC gs.length=true
     case neg=>rw [kz hz] at hcm;cases hcm
     rw [kC hz] at hcm
     refine iteT ⟨_,rfl,wk,CW,dw,_,.ref wl,rfl,i1',c.cl,c.wards,fw,.inl ⟨rfl,_,SqL.of v1'⟩,_,rfl,_,rfl,wk,CW,dw,_,.ref ho,rfl,i1',c.cl,c.hold,fh,ho,CH,dx,_,.ref hl,rfl,j1',ch.cl,ch.held,fl,hl,_,rfl,.inl (SqL.of hst'),by show 2≤sizeLine;decide,fun ga hga=>?_⟩
     have sg:=zh hga (.tup [.int mk,.int (st.length:Nat)])
     have hgl:gas2.length=gs.length:=v2'.length
     refine ⟨wl,_,_,rfl,rfl,sg _ _ v1',by rw [kj,hgl];exact qj hz,?_⟩
     have k4:qW H (upd (upd H3 ga (.tup [.int mk,.int (st.length:Nat)])) wl (.lst (gas2.map V.ref++[.ref ga]))) wl:=fun b o e h=>by rw [zf h];exact sg _ _ (k3 b o e h)
     have v3:(upd (upd H3 ga (.tup [.int mk,.int (st.length:Nat)])) wl (.lst (gas2.map V.ref++[.ref ga]))) wl=some (.lst ((gas2++[ga]).map V.ref)):=by rw [zb,kL];rfl
     have v4:GsIn (upd (upd H3 ga (.tup [.int mk,.int (st.length:Nat)])) wl (.lst (gas2.map V.ref++[.ref ga]))) (gas2++[ga]) (gs++[(mk,(st.length:Int))]):=by
      have kt:qr (upd H3 ga (.tup [.int mk,.int (st.length:Nat)])) (upd (upd H3 ga (.tup [.int mk,.int (st.length:Nat)])) wl (.lst (gas2.map V.ref++[.ref ga]))):=qr.upd (sg _ _ v1') rfl
      exact ((v2'.same sg).append (.cons zb .nil)).keep kt
     generalize upd (upd H3 ga (.tup [.int mk,.int (st.length:Nat)])) wl (.lst (gas2.map V.ref++[.ref ga]))=H4 at *
     obtain ⟨r',ra',hrp',hra',har',i4,l4⟩:=read hcm k4 v3 v4
     refine ⟨_,rfl,_,_,rfl,rfl,?_⟩
     refine ⟨_,rfl,wk,CW,dw,_,.ref rl,rfl,i4,c.cl,c.rows,fr,_,rfl,rl,_,_,_,rfl,rfl,SqL.of l4,zq hra',ra',_,_,_,rfl,rfl,SqT.of har',zq (j:=0) rfl,
      _,rfl,wk,CW,dw,_,.ref rl,rfl,i4,c.cl,c.rows,fr,_,rfl,rl,_,_,_,rfl,rfl,SqL.of l4,zq hra',ra',_,_,_,rfl,rfl,SqT.of har',zq (j:=1) rfl,_,_,rfl,?_⟩
     exact hN2 _ _ ⟨p+1,r',_,_,rfl,hcm,hrp',k4,v3,v4⟩
    | _=>rw [ha] at hcm;cases hcm
   ·rw [kh h2]
    refine iteF ⟨_,rfl,rfl,decide (r.op="endtry"),congrArg V.bl j9,?_⟩
    by_cases h3:r.op="endtry"
    ·have n1:¬r.op="label":=by rw [h3];decide+kernel
     rw [kz n1,kz h2,kC h3] at hcm
     rw [ki h3]
     by_cases hg:gs=[]
     ·rw [kC hg] at hcm;cases hcm
     rw [kz hg] at hcm
     obtain ⟨bs,ga,g,e1,e2,e3,e4⟩:=z1S v2' hg
     subst e1
     have hlast:((bs++[ga]).map V.ref)[((bs++[ga]).map V.ref).length - 1]?=some (V.ref ga):=by rw [←List.getLast?_eq_getElem?,kL];simp
     refine iteT ⟨_,rfl,wk,CW,dw,_,.ref wl,rfl,i1',c.cl,c.wards,fw,.inl ⟨rfl,_,SqL.of v1'⟩,wl,_,_,rfl,rfl,v1',hlast,?_⟩
     have ed:((bs++[ga]).map V.ref).dropLast=bs.map V.ref:=by rw [kL];simp
     rw [ed]
     have k4:qW H (upd H3 wl (.lst (bs.map V.ref))) wl:=fun b o e h=>by rw [zf h];exact k3 b o e h
     have v3:(upd H3 wl (.lst (bs.map V.ref))) wl=some (.lst (bs.map V.ref)):=zb
     have v4:GsIn (upd H3 wl (.lst (bs.map V.ref))) bs gs.dropLast:=e3.keep (qr.upd v1' rfl)
     generalize upd H3 wl (.lst (bs.map V.ref))=H4 at *
     obtain ⟨r',ra',hrp',hra',har',i4,l4⟩:=read hcm k4 v3 v4
     refine ⟨_,rfl,_,_,rfl,rfl,?_⟩
     refine ⟨_,rfl,wk,CW,dw,_,.ref rl,rfl,i4,c.cl,c.rows,fr,_,rfl,rl,_,_,_,rfl,rfl,SqL.of l4,zq hra',ra',_,_,_,rfl,rfl,SqT.of har',zq (j:=0) rfl,
      _,rfl,wk,CW,dw,_,.ref rl,rfl,i4,c.cl,c.rows,fr,_,rfl,rl,_,_,_,rfl,rfl,SqL.of l4,zq hra',ra',_,_,_,rfl,rfl,SqT.of har',zq (j:=1) rfl,_,_,rfl,?_⟩
     exact hN2 _ _ ⟨p+1,r',_,_,rfl,hcm,hrp',k4,v3,v4⟩
    ·have h1:r.op="label":=by
      rcases kF.mp cc with z | z
      ·exact z
      ·rcases kF.mp z with z | z
       ·exact absurd z h2
       ·exact absurd (ko.mp z) h3
     rw [kC h1] at hcm
     rw [kh h3]
     obtain ⟨r',ra',hrp',hra',har',i4,l4⟩:=read hcm k3 v1' v2'
     refine iteF ⟨_,rfl,_,_,rfl,rfl,?_⟩
     refine ⟨_,rfl,wk,CW,dw,_,.ref rl,rfl,i4,c.cl,c.rows,fr,_,rfl,rl,_,_,_,rfl,rfl,SqL.of l4,zq hra',ra',_,_,_,rfl,rfl,SqT.of har',zq (j:=0) rfl,
      _,rfl,wk,CW,dw,_,.ref rl,rfl,i4,c.cl,c.rows,fr,_,rfl,rl,_,_,_,rfl,rfl,SqL.of l4,zq hra',ra',_,_,_,rfl,rfl,SqT.of har',zq (j:=1) rfl,_,_,rfl,?_⟩
     exact hN2 _ _ ⟨p+1,r',_,_,rfl,hcm,hrp',k3,v1',v2'⟩
  ·have cc:¬inT r.op jD=true:=cc
   rw [qT] at cc
   have h1:¬r.op="label":=fun z=>cc (by rw [z];decide+kernel)
   have h2:¬r.op="try":=fun z=>cc (by rw [z];decide+kernel)
   have h3:¬r.op="endtry":=fun z=>cc (by rw [z];decide+kernel)
   rw [kz h1,kz h2,kz h3] at hcm
   cases hcm
   exact ⟨_,rfl,q _ _ k3 v1' v2'⟩
end
section
variable {CW CH:Addr}
theorem qg.come {H0 H:Hp} {a:WAd} {rs:List Row} {m:Mst} {gs gs':List Gd} {pas:List Nat} {e:List V} {here:Option Nat} {n p p':Nat} {Q:VK} {E:XK} (W:qg K H0 H CW CH a rs m gs pas e here) (hcm:qN rs m.st.length n p gs=some (p',gs'))
  (q:∀H',qg K H0 H' CW CH a rs m gs' pas e here→Q (.int (p':Nat)) H'):z0d K CW CH [.ref a.wk,.int (p:Nat)] H Q E:=by
 obtain ⟨ea,i1,i2⟩:=W.ins
 obtain ⟨as,r1,r2⟩:=W.rows
 obtain ⟨gas,w1,w2⟩:=W.wards
 exact ⟨a.wk,a.dw,a.rl,a.wl,a.ho,a.dx,a.hl,_,_,as,gas,rs,m.st,gs,p,n,p',gs',rfl,i1,rfl,rfl,rfl,W.hold.ins,rfl,W.hold.held,r1,r2,w1,w2,W.n11,W.n4.symm,hcm,fun gas' H' k h1 h2=>q H' (W.ward k h1 h2)⟩
def z68 (K:ky) (CW CH:Addr):Sp:=fun vs H Q _=>∃(a:WAd) (H0:Hp) (rs:List Row) (m:Mst) (gs:List Gd) (pas:List Nat) (e:List V) (here:Option Nat) (ea:Addr) (e':List V),vs=[.ref a.wk,.ref ea]∧qg K H0 H CW CH a rs m gs pas e here∧SqT K H ea e'∧∀H',qg K H0 H' CW CH a rs m gs pas e' none→Q .non H'
theorem scW2:zj ["self","ending"] ["self","ending"] (zd (mW 2)):=fsM
theorem z9x (D:HasM K CW "finish" "Walk.finish" (mW 2)) (c:QW K CW):MN P w K mg base 1 CW "finish" ["self","ending"] (z68 K CW CH):=by
 refine MN.o D scW2 fun f cdv A outer s H vs Q E hr h=>?_
 obtain ⟨a,H0,rs,m,gs,pas,e,here,ea,e',rfl,W,he,q⟩:=h
 obtain ⟨ea0,i1,i2⟩:=W.ins
 refine ⟨_,z8 (jp (pv 0) qc rfl) (zc (jp (pv 0) (pv 1) rfl)),?_⟩
 try dsimp only [L2.cxOf,L2.Cx.nox]
 refine ⟨_,rfl,a.wk,CW,a.dw,_,rfl,i1,c.cl,c.here,(by show 7 < 1000;decide),?_⟩
 have W1:=W.fields (here':=none) i2
 have kt:=qr.upd (o:=.ins CW a.dw (wfs a (.ref ea0) (z2r none))) i1 rfl
 refine ⟨_,rfl,_,rfl,a.wk,CW,a.dw,wfs a (.ref ea0) (z2r none),rfl,zb,c.cl,c.ending,(by show 7 < 1000;decide),?_⟩
 exact q _ (W1.fields (here':=none) (je kt he))
noncomputable def z07 (rs:List Row) (m:Mst) (gs:List Gd) (e:List V) (kind:Str) (line:Int):Option (Mst × List Gd × List V × Option Nat):=match gs.getLast? with
 | none=>some (m,gs,[.str "fault",.str kind,.int line],none)
 | some g=>if qC m.st.length=true then (match zw rs g.1 with
  | some j=>(match qN rs (cutV m.st none (some g.2)++[V.str kind]).length 200 j gs.dropLast with
   | some (p',gs')=>some ({ m with st:=cutV m.st none (some g.2)++[V.str kind] },gs',e,some p')
   | none=>none)
  | none=>none) else none
def z5t (K:ky) (CW CH:Addr):Sp:=fun vs H Q _=>∃(a:WAd) (H0:Hp) (rs:List Row) (m:Mst) (gs:List Gd) (pas:List Nat) (e:List V) (here:Option Nat) (kind:Str) (line:Int) (m':Mst) (gs':List Gd) (e':List V) (here':Option Nat),vs=[.ref a.wk,.str kind,.int line]∧qg K H0 H CW CH a rs m gs pas e here∧z07 rs m gs e kind line=some (m',gs',e',here')∧∀a' H',a'.wk=a.wk→qg K H0 H' CW CH a' rs m' gs' pas e' here'→Q .non H'
theorem scW3:zj ["self","kind","line","mark","depth","hold"] ["self","kind","line"] (zd (mW 3)):=fsM
theorem z8b (D:HasM K CW "take_fault" "Walk.take_fault" (mW 3)) (c:QW K CW) (ch:jJ K CH) (F1:MN P w K mg base 1 CW "finish" ["self","ending"] (z68 K CW CH)) (F3:MN P w K mg base 1 CW "come_to" ["self","place"] (z0d K CW CH)):MN P w K mg base 2 CW "take_fault" ["self","kind","line"] (z5t K CW CH):=by
 refine MN.o D scW3 fun f cdv A outer s H vs Q E hr h=>?_
 obtain ⟨a,H0,rs,m,gs,pas,e,here,kind,line,m',gs',e',here',rfl,W,htk,q⟩:=h
 have hu:=Zq hr
 refine ⟨_,z8 (zD (jy (Qs (zI (pv 0) rfl) (fun _=>rfl))) (z8 (zk (z1a (pv 0) c.cl F1 hr (z6 (zE (z6 zi (z6 (pv 1) (z6 (pv 2) z7)))) z7))) (zc z6l)) zu)
  (z8 (j6 (qF (zI (pv 0) rfl)) (jg rfl (zt (zB (i:=3) scW3.nd rfl (Or.inl rfl)) (zt (zB (i:=4) scW3.nd rfl (Or.inl rfl)) qy))))
  (z8 (zA (i:=5) scW3.nd rfl (Or.inl rfl) (zI (pv 0) rfl))
  (z8 (jp (pv 5) (zJ z3f (Jx z2W (zI (pv 5) rfl) z17 (z16 (pv 4))) (qu (z6 (pv 1) z7))) rfl)
  (zc (jp (pv 0) (z1a (pv 0) c.cl F3 hr (z6 (jz hu (zI (pv 0) rfl) (pv 3) (fun _ _=>rfl)) z7)) rfl))))),?_⟩
 try dsimp only [L2.cxOf,L2.Cx.nox]
 obtain ⟨ea0,i1,i2⟩:=W.ins
 obtain ⟨gas,w1,w2⟩:=W.wards
 unfold z07 at htk
 cases hgl:gs.getLast? with
 | none=>
  rw [hgl] at htk
  cases htk
  have hg0:gs=[]:=List.getLast?_eq_none_iff.mp hgl
  subst hg0
  cases w2
  refine ⟨_,rfl,a.wk,CW,a.dw,_,.ref a.wl,rfl,i1,c.cl,c.wards,rfl,false,.inl ⟨_,SqL.of w1,rfl⟩,iteT ?_⟩
  refine ⟨_,rfl,a.wk,a.dw,_,rfl,i1,rfl,_,rfl,_,rfl,by show 3≤sizeLine;decide,fun p hp=>?_⟩
  have sp:=zh hp (.tup [.str "fault",.str kind,.int line])
  exact ⟨a,H0,rs,m,[],pas,e,here,p,_,rfl,W.same' sp,SqT.of zb,fun H' W'=>q a H' rfl W'⟩
 | some g=>
  rw [hgl] at htk
  dsimp only at htk
  by_cases hz:qC m.st.length=true
  case neg=>rw [kz hz] at htk;cases htk
  rw [kC hz] at htk
  cases hfl:zw rs g.1 with
  | none=>rw [hfl] at htk;cases htk
  | some j=>
   rw [hfl] at htk
   dsimp only at htk
   cases hcm:qN rs (cutV m.st none (some g.2)++[V.str kind]).length 200 j gs.dropLast with
   | none=>rw [hcm] at htk;cases htk
   | some pg=>
    obtain ⟨p',gs2⟩:=pg
    rw [hcm] at htk
    cases htk
    have hne:gs≠[]:=fun z=>by rw [z] at hgl;cases hgl
    obtain ⟨bs,ga,g',e1,e2,e3,e4⟩:=z1S w2 hne
    rw [hgl] at e2
    cases e2
    subst e1
    have hlast:((bs++[ga]).map V.ref)[((bs++[ga]).map V.ref).length - 1]?=some (V.ref ga):=by rw [←List.getLast?_eq_getElem?,kL];simp
    have ed:((bs++[ga]).map V.ref).dropLast=bs.map V.ref:=by rw [kL];simp
    refine ⟨_,rfl,a.wk,CW,a.dw,_,.ref a.wl,rfl,i1,c.cl,c.wards,rfl,true,.inl ⟨_,SqL.of w1,by simp⟩,iteF ?_⟩
    refine ⟨_,rfl,a.wk,CW,a.dw,_,.ref a.wl,rfl,i1,c.cl,c.wards,rfl,.inl ⟨rfl,_,SqL.of w1⟩,a.wl,_,_,rfl,rfl,w1,hlast,?_⟩
    rw [ed]
    have k1:qW H (upd H a.wl (.lst (bs.map V.ref))) a.wl:=fun b o e h=>by rw [zf h];exact e
    have kt:=qr.upd (o:=.lst (bs.map V.ref)) w1 rfl
    have W1:=W.ward (gs':=gs.dropLast) k1 zb (e3.keep kt)
    have e4':=kt _ _ e4 rfl
    generalize upd H a.wl (.lst (bs.map V.ref))=H1 at *
    obtain ⟨ea1,j1,j2⟩:=W1.ins
    refine ⟨ga,_,rfl,SqT.of e4',rfl,_,_,rfl,_,_,rfl,rfl,?_⟩
    refine ⟨_,rfl,a.wk,CW,a.dw,_,.ref a.ho,rfl,j1,c.cl,c.hold,rfl,?_⟩
    refine ⟨_,rfl,a.ho,CH,a.dx,_,.ref a.hl,rfl,W1.hold.ins,ch.cl,ch.held,rfl,_,rfl,g.2,rfl,a.hl,_,rfl,SqL.of W1.hold.held,fun l1 h1=>?_⟩
    have s1:=zh h1 (.lst (cutV m.st none (some g.2)))
    refine ⟨_,rfl,by show 1≤sizeLine;decide,fun l2 h2=>?_⟩
    have s2:=zh h2 (.lst [V.str kind])
    have hzz:m.st.length≤1000:=kE hz
    have hcl:=jT m.st none (some g.2)
    refine ⟨l1,l2,_,_,rfl,rfl,s2 _ _ zb,zb,by rw [sizeLine_eq];show _+1≤_;lia,fun l3 h3=>?_⟩
    have s3:=zh h3 (.lst (cutV m.st none (some g.2)++[V.str kind]))
    have W3:=W1.same' (s1.trans s2)
    obtain ⟨as3,r1,r2⟩:=W3.rows
    obtain ⟨gas3,x1,x2⟩:=W3.wards
    have q1:=ze r1 h3
    have q2:=ze x1 h3
    have q3:=ze W3.passed h3
    have q4:=(ze W3.hold.said h3).symm
    have fp:=W3.same.free h3
    have W4:=W3.same' s3
    have W5:=W4.stack zb fp q1 q2 q3 q4
    refine ⟨_,rfl,a.ho,CH,a.dx,_,rfl,W4.hold.ins,ch.cl,ch.held,(by show 3 < 1000;decide),?_⟩
    have W5:qg K H0 (upd (upd (upd (upd H1 l1 (.lst (cutV m.st none (some g.2)))) l2 (.lst [V.str kind])) l3 (.lst (cutV m.st none (some g.2)++[V.str kind]))) a.ho (.ins CH a.dx (putF "held" (.ref l3) [("held",.ref a.hl),("known",.ref a.kd),("said",.ref a.sl)]))) CW CH { a with hl:=l3 } rs { m with st:=cutV m.st none (some g.2)++[V.str kind] } gs.dropLast pas e here:=W5
    generalize upd (upd (upd (upd H1 l1 (.lst (cutV m.st none (some g.2)))) l2 (.lst [V.str kind])) l3 (.lst (cutV m.st none (some g.2)++[V.str kind]))) a.ho (.ins CH a.dx (putF "held" (.ref l3) [("held",.ref a.hl),("known",.ref a.kd),("said",.ref a.sl)]))=H5 at *
    obtain ⟨ea5,y1,y2⟩:=W5.ins
    obtain ⟨kv,z1,z2⟩:=W5.goals
    have hv:valV kv (Sum.inl g.1:Key)=some (.int (j:Int)):=by rw [z2 g.1,hfl];rfl
    have hgt:DGet H5 a.gd (.int g.1) (some (.int (j:Int))):=by rw [←hv];exact DGet.k (k:=Sum.inl g.1) z1
    refine ⟨_,rfl,a.wk,a.dw,_,rfl,y1,rfl,_,rfl,a.wk,CW,a.dw,_,.ref a.gd,rfl,y1,c.cl,c.goals,rfl,_,rfl,a.gd,_,rfl,hgt,?_⟩
    refine qg.come (a:={ a with hl:=l3 }) W5 hcm fun H6 W6=>?_
    obtain ⟨ea6,u1,u2⟩:=W6.ins
    refine ⟨_,rfl,a.wk,CW,a.dw,_,rfl,u1,c.cl,c.here,(by show 7 < 1000;decide),?_⟩
    exact q { a with hl:=l3 } _ rfl (W6.fields (here':=some p') u2)
end
section
variable {CW CH:Addr}
noncomputable def Qh (rs:List Row) (m:Mst) (gs:List Gd) (pas:List Nat) (p:Nat):Option (Mst × List Gd × List Nat × List V × Option Nat):=match rs[p]? with
 | none=>none
 | some r=>if qC pas.length=true then (match rowM r.op r.arg m with
  | none=>none
  | some (.next,m')=>(match qN rs m'.st.length 200 (p+1) gs with | some (p',gs')=>some (m',gs',pas++[p],[.str "on"],some p') | none=>none)
  | some (.go,m')=>(match r.arg with
   | .int mk=>(match zw rs mk with
    | some j=>(match qN rs m'.st.length 200 j gs with | some (p',gs')=>some (m',gs',pas++[p],[.str "on"],some p') | none=>none)
    | none=>none)
   | _=>none)
  | some (.fault k,m')=>(match z07 rs m' gs [.str "on"] k r.line with | some (m'',gs',e',here')=>some (m'',gs',pas++[p],e',here') | none=>none)
  | some (.value v,m')=>some (m',gs,pas++[p],[.str "value",v],none)) else none
def z5u (K:ky) (CW CH:Addr):Sp:=fun vs H Q _=>∃(a:WAd) (H0:Hp) (rs:List Row) (m:Mst) (gs:List Gd) (pas:List Nat) (p:Nat) (m':Mst) (gs':List Gd) (pas':List Nat) (e':List V) (here':Option Nat),vs=[.ref a.wk]∧qg K H0 H CW CH a rs m gs pas [.str "on"] (some p)∧Qh rs m gs pas p=some (m',gs',pas',e',here')∧∀a' H',a'.wk=a.wk→qg K H0 H' CW CH a' rs m' gs' pas' e' here'→Q (.bl true) H'
theorem scW4:zj ["self","place","op","arg","line","word","value"] ["self"] (zd (mW 4)):=fsM
theorem z8c (D:HasM K CW "step" "Walk.step" (mW 4)) (c:QW K CW) (F1:MN P w K mg base 1 CW "finish" ["self","ending"] (z68 K CW CH)) (F2:MN P w K mg base 2 CW "take_fault" ["self","kind","line"] (z5t K CW CH)) (F3:MN P w K mg base 1 CW "come_to" ["self","place"] (z0d K CW CH))
  (FR:FN P w K mg base 5 "do_row" ["hold","op","arg"] (zZ K CH rowM)):MN P w K mg base 6 CW "step" ["self"] (z5u K CW CH):=by
 refine MN.o D scW4 fun f cdv A outer s H vs Q E hr h=>?_
 obtain ⟨a,H0,rs,m,gs,pas,p,m',gs',pas',e',here',rfl,W,hst,q⟩:=h
 have hu:=Zq hr
 have hr1:=hr.mono (show 1≤5 by decide)
 have hr2:=hr.mono (show 2≤5 by decide)
 refine ⟨_,z8 (zD (zl QE (zI (pv 0) rfl) qc (zn _)) qZ zu)
  (z8 (zA (i:=1) scW4.nd rfl (Or.inl rfl) (zI (pv 0) rfl))
  (z8 (j6 (zP zL (zI (pv 0) rfl) (pv 1) (fun _ _=>rfl)) (jg rfl (zt (zB (i:=2) scW4.nd rfl (Or.inl rfl)) (zt (zB (i:=3) scW4.nd rfl (Or.inl rfl)) (zt (zB (i:=4) scW4.nd rfl (Or.inl rfl)) qy)))))
  (z8 (zk (qO (zI (pv 0) rfl) (z6 (pv 1) z7)))
  (z8 (j6 (zp FR hr rfl (z6 (zI (pv 0) rfl) (z6 (pv 2) (z6 (pv 3) z7)))) (jg rfl (zt (zB (i:=5) scW4.nd rfl (Or.inl rfl)) (zt (zB (i:=6) scW4.nd rfl (Or.inl rfl)) qy))))
  (z8 (zD (zl zT (pv 5) zi (zn _)) (zc (jp (pv 0) (z1a (pv 0) c.cl F3 hr1 (z6 (zJ qV (pv 1) zg) z7)) rfl))
   (zc (zD (zl zT (pv 5) zi (zn _)) (zc (jp (pv 0) (z1a (pv 0) c.cl F3 hr1 (z6 (jz hu (zI (pv 0) rfl) (pv 3) (fun _ _=>rfl)) z7)) rfl))
    (zc (zD (zl zT (pv 5) zi (zn _)) (zc (zk (z1a (pv 0) c.cl F2 hr2 (z6 (pv 6) (z6 (pv 4) z7)))))
     (zc (zk (z1a (pv 0) c.cl F1 hr1 (z6 (zE (z6 (pv 5) (z6 (pv 6) z7))) z7)))))))))
  (zc (zm JC))))))),?_⟩
 try dsimp only [L2.cxOf,L2.Cx.nox]
 obtain ⟨ea,i1,i2⟩:=W.ins
 obtain ⟨as,r1,r2⟩:=W.rows
 unfold Qh at hst
 cases hrp:rs[p]? with
 | none=>rw [hrp] at hst;cases hst
 | some r=>
  rw [hrp] at hst
  dsimp only at hst
  by_cases hpz:qC pas.length=true
  case neg=>rw [kz hpz] at hst;cases hst
  rw [kC hpz] at hst
  obtain ⟨ra,hra,har⟩:=r2.get' hrp
  refine ⟨_,rfl,a.wk,CW,a.dw,_,.int (p:Nat),rfl,i1,c.cl,c.here,rfl,rfl,_,rfl,iteF ?_⟩
  refine ⟨_,rfl,a.wk,CW,a.dw,_,.int (p:Nat),rfl,i1,c.cl,c.here,rfl,?_⟩
  refine ⟨_,rfl,a.wk,CW,a.dw,_,.ref a.rl,rfl,i1,c.cl,c.rows,rfl,_,rfl,a.rl,_,_,_,rfl,rfl,SqL.of r1,zq hra,ra,_,rfl,SqT.of har,rfl,_,_,rfl,_,_,rfl,_,_,rfl,rfl,?_⟩
  cases hrow:rowM r.op r.arg m with
  | none=>rw [hrow] at hst;cases hst
  | some rm=>
   obtain ⟨res,m1⟩:=rm
   rw [hrow] at hst
   try dsimp only at hst
   refine ⟨_,rfl,a.wk,CW,a.dw,_,.ref a.pl,rfl,i1,c.cl,c.passed,rfl,.inl ⟨rfl,_,SqL.of W.passed⟩,_,rfl,a.pl,_,_,rfl,rfl,W.passed,(by rw [kj];exact qj hpz),?_⟩
   have W1:=W.pass p
   generalize upd H a.pl (.lst ((pas.map fun p=>V.int (p:Nat))++[.int (p:Nat)]))=H1 at W1
   obtain ⟨ea1,j1,j2⟩:=W1.ins
   refine ⟨_,rfl,a.wk,CW,a.dw,_,.ref a.ho,rfl,j1,c.cl,c.hold,rfl,_,rfl,_,rfl,a.ho,a.hl,a.kd,a.sl,a.dx,r.op,r.arg,m,res,m1,rfl,W1.hold,hrow,fun t H2 ht hA hrest=>?_⟩
   have W2:=W1.deed hA hrest
   obtain ⟨ea2,l1,l2⟩:=W2.ins
   cases res with
   | next=>
    dsimp only at hst
    refine ⟨t,_,rfl,ht,rfl,_,_,rfl,_,_,rfl,rfl,?_⟩
    cases hcm:qN rs m1.st.length 200 (p+1) gs with
    | none=>rw [hcm] at hst;cases hst
    | some pg=>
     obtain ⟨p',gs2⟩:=pg
     rw [hcm] at hst
     cases hst
     refine ⟨_,rfl,rfl,_,rfl,iteT ?_⟩
     refine ⟨_,rfl,a.wk,a.dw,_,rfl,l1,rfl,_,rfl,_,_,rfl,rfl,?_⟩
     refine qg.come W2 hcm fun H3 W3=>?_
     obtain ⟨ea3,u1,u2⟩:=W3.ins
     refine ⟨_,rfl,a.wk,CW,a.dw,_,rfl,u1,c.cl,c.here,(by show 7 < 1000;decide),?_⟩
     exact q a _ rfl (W3.fields (here':=some p') u2)
   | go=>
    dsimp only at hst
    refine ⟨t,_,rfl,ht,rfl,_,_,rfl,_,_,rfl,rfl,?_⟩
    cases harg:r.arg with
    | int mk=>
     rw [harg] at hst
     dsimp only at hst
     cases hfl:zw rs mk with
     | none=>rw [hfl] at hst;cases hst
     | some j=>
      rw [hfl] at hst
      dsimp only at hst
      cases hcm:qN rs m1.st.length 200 j gs with
      | none=>rw [hcm] at hst;cases hst
      | some pg=>
       obtain ⟨p',gs2⟩:=pg
       rw [hcm] at hst
       cases hst
       obtain ⟨kv,g1,g2⟩:=W2.goals
       have hv:valV kv (Sum.inl mk:Key)=some (.int (j:Int)):=by rw [g2 mk,hfl];rfl
       have hgt:DGet H2 a.gd (.int mk) (some (.int (j:Int))):=by rw [←hv];exact DGet.k (k:=Sum.inl mk) g1
       refine ⟨_,rfl,rfl,_,rfl,iteF ⟨_,rfl,rfl,_,rfl,iteT ?_⟩⟩
       refine ⟨_,rfl,a.wk,a.dw,_,rfl,l1,rfl,_,rfl,a.wk,CW,a.dw,_,.ref a.gd,rfl,l1,c.cl,c.goals,rfl,_,rfl,a.gd,_,rfl,hgt,?_⟩
       refine qg.come W2 hcm fun H3 W3=>?_
       obtain ⟨ea3,u1,u2⟩:=W3.ins
       refine ⟨_,rfl,a.wk,CW,a.dw,_,rfl,u1,c.cl,c.here,(by show 7 < 1000;decide),?_⟩
       exact q a _ rfl (W3.fields (here':=some p') u2)
    | _=>rw [harg] at hst;cases hst
   | fault k=>
    dsimp only at hst
    cases htk:z07 rs m1 gs [.str "on"] k r.line with
    | none=>rw [htk] at hst;cases hst
    | some rr=>
     obtain ⟨m2,gs2,e2,here2⟩:=rr
     rw [htk] at hst
     cases hst
     refine ⟨t,_,rfl,ht,rfl,_,_,rfl,_,_,rfl,rfl,?_⟩
     refine ⟨_,rfl,rfl,_,rfl,iteF ⟨_,rfl,rfl,_,rfl,iteF ⟨_,rfl,rfl,_,rfl,iteT ?_⟩⟩⟩
     exact ⟨_,rfl,a.wk,a.dw,_,rfl,l1,rfl,_,rfl,_,rfl,a,H0,rs,_,_,_,_,_,k,r.line,m',gs',e',here',rfl,W2,htk,fun a' H3 ha W3=>q a' H3 ha W3⟩
   | value v=>
    cases hst
    refine ⟨t,_,rfl,ht,rfl,_,_,rfl,_,_,rfl,rfl,?_⟩
    refine ⟨_,rfl,rfl,_,rfl,iteF ⟨_,rfl,rfl,_,rfl,iteF ⟨_,rfl,rfl,_,rfl,iteF ?_⟩⟩⟩
    refine ⟨_,rfl,a.wk,a.dw,_,rfl,l1,rfl,_,rfl,_,rfl,by show 2≤sizeLine;decide,fun p2 hp2=>?_⟩
    have sp:=zh hp2 (.tup [.str "value",v])
    exact ⟨a,H0,rs,_,_,_,_,_,p2,_,rfl,W2.same' sp,SqT.of zb,fun H3 W3=>q a H3 rfl W3⟩
end
section
variable {CW CH:Addr}
abbrev WX (K:ky) (CW CH:Addr) (H:Hp) (φ:WAd→Hp→List Row→Mst→List Gd→List Nat→List V→Option Nat→Prop):Prop:=∃(a:WAd) (H0:Hp) (rs:List Row) (m:Mst) (gs:List Gd) (pas:List Nat) (e:List V) (here:Option Nat),qg K H0 H CW CH a rs m gs pas e here∧φ a H0 rs m gs pas e here
def z2O (K:ky) (CW CH:Addr):Sp:=fun vs H Q _=>WX K CW CH H fun a _ _ _ _ _ _ here=>vs=[.ref a.wk]∧Q (z2r here) H
theorem scW5:zj ["self"] ["self"] (zd (mW 5)):=fsM
theorem z6u (D:HasM K CW "place" "Walk.place" (mW 5)) (c:QW K CW):MN P w K mg base 1 CW "place" ["self"] (z2O K CW CH):=by
 refine MN.o D scW5 fun f cdv A outer s H vs Q E hr h=>?_
 obtain ⟨a,H0,rs,m,gs,pas,e,here,W,rfl,q⟩:=h
 obtain ⟨ea,i1,i2⟩:=W.ins
 exact ⟨_,zc (zm (zI (pv 0) rfl)),_,rfl,a.wk,CW,a.dw,_,_,rfl,i1,c.cl,c.here,rfl,q⟩
def z69 (K:ky) (CW CH:Addr):Sp:=fun vs H Q _=>WX K CW CH H fun a _ _ _ _ _ e _=>vs=[.ref a.wk]∧∀ea,SqT K H ea e→Q (.ref ea) H
theorem z9a:zj ["self"] ["self"] (zd (mW 11)):=fsM
theorem z9y (D:HasM K CW "end" "Walk.end" (mW 11)) (c:QW K CW):MN P w K mg base 1 CW "end" ["self"] (z69 K CW CH):=by
 refine MN.o D z9a fun f cdv A outer s H vs Q E hr h=>?_
 obtain ⟨a,H0,rs,m,gs,pas,e,here,W,rfl,q⟩:=h
 obtain ⟨ea,i1,i2⟩:=W.ins
 exact ⟨_,zc (zm (zI (pv 0) rfl)),_,rfl,a.wk,CW,a.dw,_,_,rfl,i1,c.cl,c.ending,rfl,q ea i2⟩
def z2L (K:ky) (CW CH:Addr):Sp:=fun vs H Q _=>WX K CW CH H fun a _ _ m _ _ _ _=>vs=[.ref a.wk]∧∀l,H l=none→Q (.ref l) (upd H l (.lst m.sd))
theorem scW9:zj ["self"] ["self"] (zd (mW 9)):=fsM
theorem z8a (D:HasM K CW "told" "Walk.told" (mW 9)) (c:QW K CW) (ch:jJ K CH) (G:Glo mg):MN P w K mg base 1 CW "told" ["self"] (z2L K CW CH):=by
 refine MN.o D scW9 fun f cdv A outer s H vs Q E hr h=>?_
 obtain ⟨a,H0,rs,m,gs,pas,e,here,W,rfl,q⟩:=h
 obtain ⟨ea,i1,i2⟩:=W.ins
 refine ⟨_,zc (zm (ji jH rfl G.list jM (z6 (zI (zI (pv 0) rfl) rfl) z7))),?_⟩
 try dsimp only [L2.cxOf,L2.Cx.nox]
 exact ⟨_,rfl,a.wk,CW,a.dw,_,.ref a.ho,rfl,i1,c.cl,c.hold,rfl,a.ho,CH,a.dx,_,.ref a.sl,rfl,W.hold.ins,ch.cl,ch.said,rfl,a.sl,_,rfl,.inl (SqL.of W.hold.said),q⟩
def z67 (K:ky) (CW CH:Addr):Sp:=fun vs H Q _=>WX K CW CH H fun a _ _ _ _ pas _ _=>vs=[.ref a.wk]∧Q (.int (pas.length:Nat)) H
theorem z99:zj ["self"] ["self"] (zd (mW 12)):=fsM
theorem z9w (D:HasM K CW "__len__" "Walk.__len__" (mW 12)) (c:QW K CW) (G:Glo mg):MN P w K mg base 1 CW "__len__" ["self"] (z67 K CW CH):=by
 refine MN.o D z99 fun f cdv A outer s H vs Q E hr h=>?_
 obtain ⟨a,H0,rs,m,gs,pas,e,here,W,rfl,q⟩:=h
 obtain ⟨ea,i1,i2⟩:=W.ins
 refine ⟨_,zc (zm (zy zQ rfl G.len qt (z6 (zI (pv 0) rfl) z7))),?_⟩
 try dsimp only [L2.cxOf,L2.Cx.nox]
 refine ⟨_,rfl,a.wk,CW,a.dw,_,.ref a.pl,rfl,i1,c.cl,c.passed,rfl,a.pl,_,rfl,.inl (SqL.of W.passed),?_⟩
 rw [kj]
 exact q
end
structure Ini (H Hi:Hp) (x CW dw:Addr) (fs:List (Str × V)) (ps:List (Addr × HO)):Prop where
 sx:∀b o,H b=some o→b≠x→Hi b=some o
 hx:Hi x=some (.ins CW dw fs)
 held:∀q∈ps,Hi q.1=some q.2∧q.1≠x
theorem Ini.same {H Hi Hj:Hp} {x CW dw:Addr} {fs:List (Str × V)} {ps:List (Addr × HO)} (I:Ini H Hi x CW dw fs ps) (s:Same Hi Hj):Ini H Hj x CW dw fs ps:=
 ⟨fun b o e h=>s _ _ (I.sx b o e h),s _ _ I.hx,fun q hq=>⟨s _ _ (I.held q hq).1,(I.held q hq).2⟩⟩
theorem Ini.setx {H Hi:Hp} {x CW dw:Addr} {fs:List (Str × V)} {ps:List (Addr × HO)} (I:Ini H Hi x CW dw fs ps) (f:Str) (v:V):Ini H (upd Hi x (.ins CW dw (putF f v fs))) x CW dw (putF f v fs) ps:=
 ⟨fun b o e h=>by rw [zf h];exact I.sx b o e h,zb,fun q hq=>⟨by rw [zf (I.held q hq).2];exact (I.held q hq).1,(I.held q hq).2⟩⟩
theorem Ini.add {H Hi:Hp} {x CW dw p:Addr} {fs:List (Str × V)} {ps:List (Addr × HO)} {o:HO} (I:Ini H Hi x CW dw fs ps) (e:Hi p=some o) (h:p≠x):Ini H Hi x CW dw fs ((p,o) :: ps):=
 ⟨I.sx,I.hx,fun q hq=>by
  rcases kF.mp hq with z | z
  ·rw [z];exact ⟨e,h⟩
  ·exact I.held q z⟩
theorem Ini.new {H Hi:Hp} {x CW dw p:Addr} {fs:List (Str × V)} {ps:List (Addr × HO)} {o:HO} (I:Ini H Hi x CW dw fs ps) (hp:Hi p=none):Ini H (upd Hi p o) x CW dw fs ((p,o) :: ps):=
 (I.same (zh hp o)).add zb (ze I.hx hp).symm
theorem Ini.nen {H Hi:Hp} {x CW dw p:Addr} {fs:List (Str × V)} {ps:List (Addr × HO)} (I:Ini H Hi x CW dw fs ps) (hp:Hi p=none) {q:Addr} {o:HO} (h:(q,o)∈ps):q≠p:=ze (I.held _ h).1 hp
section
variable {CW CH:Addr}
def z5z (K:ky) (CW CH:Addr):Sp:=fun vs H Q _=>∃(x l d dw:Addr) (as:List Addr) (rs:List Row) (fin:Fnd) (kvs:List (Key × V)) (n p':Nat) (gs':List Gd) (H0:Hp),vs=[.ref x,.ref l,.ref d]∧H x=some (.ins CW dw [])∧H0 x=none∧Same H0 H∧H l=some (.lst (as.map V.ref))∧zS H as rs∧Code rs∧Q1 rs=some fin∧
 H d=some (.dK kvs)∧QZ kvs∧qN rs 0 n 0 []=some (p',gs')∧∀(a:WAd) H',a.wk=x→qg K H0 H' CW CH a rs ⟨[],kvs,[]⟩ gs' [] [.str "on"] (some p')→Q .non H'
theorem scW0:zj ["self","code","names"] ["self","code","names"] (zd (mW 0)):=fsM
theorem z6A (D:HasI K CW "Walk.__init__" (mW 0)) (c:QW K CW) (G:Glo mg) (cs:Cons K mg) (hmH:mg "Hold"=some (.ref CH)) (FS:FN P w K mg base 10 "states" ["code"] (z1t K)) (FN':FN P w K mg base 5 "check_names" ["thing"] z5D) (FL:FN P w K mg base 7 "label_places" ["rows"] (z1v K))
  (FH:IN P w K mg base 1 CH ["self","names"] (z5A CH)) (FC:MN P w K mg base 1 CW "come_to" ["self","place"] (z0d K CW CH)):IN P w K mg base 11 CW ["self","code","names"] (z5z K CW CH):=by
 refine IN.o D scW0 fun f cdv A outer s H vs Q E hr h=>?_
 obtain ⟨x,l,d,dw,as,rs,fin,kvs,n,p',gs',H0,rfl,hx,hx0,s0,hl,hR,hc,hfin,hd,hn,hcm,q⟩:=h
 obtain ⟨oa,mo,to⟩:=cs.on
 refine ⟨_,z8 (zk (zp FS hr rfl (z6 (pv 1) z7)))
  (z8 (zk (zp FN' (hr.mono (by decide)) rfl (z6 (pv 2) z7)))
  (z8 (jp (pv 0) (ji jH rfl G.list jM (z6 (pv 1) z7)) rfl)
  (z8 (jp (pv 0) (zp FL (hr.mono (by decide)) rfl (z6 (pv 1) z7)) rfl)
  (z8 (jp (pv 0) (z7Z FH (hr.mono (by decide)) rfl hmH (z6 (pv 2) z7)) rfl)
  (z8 (jp (pv 0) (qu z7) rfl)
  (z8 (jp (pv 0) (qu z7) rfl)
  (z8 (jp (pv 0) (qh rfl mo (v:=.ref oa) rfl) rfl)
  (zc (jp (pv 0) (z1a (pv 0) c.cl FC (hr.mono (by decide)) (z6 zg z7)) rfl))))))))),?_⟩
 try dsimp only [L2.cxOf,L2.Cx.nox]
 have I0:Ini H H x CW dw [] []:=⟨fun _ _ e _=>e,hx,fun q hq=>by cases hq⟩
 have nlx:l≠x:=zC hl hx nofun
 have ndx:d≠x:=zC hd hx nofun
 have rowsK:∀{Hi fs ps},Ini H Hi x CW dw fs ps→zS Hi as rs:=fun I=>hR.keep fun b xs e=>I.sx _ _ e (zC e hx nofun)
 have fresh:∀{Hi fs ps p},Ini H Hi x CW dw fs ps→Hi p=none→H0 p=none:=fun {Hi fs ps p} I hp=>by
  cases e:H0 p with
  | none=>rfl
  | some o=>
   have:=I.sx p o (s0 _ _ e) (ze e hx0)
   rw [hp] at this
   cases this
 refine ⟨_,rfl,l,as,rs,fin,rfl,hl,hR,hc,hfin,fun fl fvs H1 s1 _ _ _=>?_⟩
 refine ⟨_,rfl,d,kvs,rfl,s1 _ _ hd,hn,fun H2 s2=>?_⟩
 have I2:=(I0.same s1).same s2
 refine ⟨_,rfl,l,_,rfl,.inl (SqL.of (I2.sx _ _ hl nlx)),fun rl hrl=>?_⟩
 have I3:=I2.new (o:=.lst (as.map V.ref)) hrl
 refine ⟨_,rfl,x,CW,dw,[],rfl,I3.hx,c.cl,c.rows,(by decide),?_⟩
 have I4:=I3.setx "rows" (.ref rl)
 clear I3 I2
 generalize upd (upd H2 rl (.lst (as.map V.ref))) x (.ins CW dw (putF "rows" (.ref rl) []))=H4 at I4
 refine ⟨_,rfl,l,as,rs,rfl,SqL.of (I4.sx _ _ hl nlx),rowsK I4,hc.ok,ku hc.hi (by decide),fun gd kg H5 hgd0 s5 hgd hL=>?_⟩
 have ngx:gd≠x:=(ze I4.hx hgd0).symm
 have nrg:rl≠gd:=I4.nen hgd0 (o:=.lst (as.map V.ref)) (by simp)
 have I5:=(I4.same s5).add hgd ngx
 refine ⟨_,rfl,x,CW,dw,_,rfl,I5.hx,c.cl,c.goals,(by show 1 < 1000;decide),?_⟩
 have I6:=I5.setx "goals" (.ref gd)
 clear I5 I4
 generalize upd H5 x (.ins CW dw (putF "goals" (.ref gd) (putF "rows" (.ref rl) [])))=H6 at I6
 refine ⟨_,rfl,fun ho dx hho hdx ndh=>?_⟩
 have sA:=(zh hdx (.own ho))
 have hho':(upd H6 dx (.own ho)) ho=none:=by rw [zf ndh.symm];exact hho
 have sB:=sA.trans (zh hho' (.ins CH dx []))
 refine ⟨ho,d,dx,kvs,rfl,zb,sB _ _ (I6.sx _ _ hd ndx),fun hl' kd sl H7 f1 f2 f3 hA kp=>⟨rfl,?_⟩⟩
 have s7:Same H6 H7:=fun b o e=>kp b o (sB _ _ e) (ze e hho)
 have g1:=sB.free f1
 have g2:=sB.free f2
 have g3:=sB.free f3
 have fho:=fresh I6 hho
 have nhx:ho≠x:=(ze I6.hx hho).symm
 have n1:rl≠hl':=I6.nen g1 (o:=.lst (as.map V.ref)) (by simp)
 have n2:rl≠sl:=I6.nen g3 (o:=.lst (as.map V.ref)) (by simp)
 have n9:gd≠kd:=I6.nen g2 (o:=.dK kg) (by simp)
 have fh1:=fresh I6 g1
 have fh2:=fresh I6 g2
 have fh3:=fresh I6 g3
 have I7:=((((I6.same s7).add hA.ins nhx).add hA.held (ze I6.hx g1).symm).add hA.known (ze I6.hx g2).symm).add hA.said (ze I6.hx g3).symm
 refine ⟨_,rfl,x,CW,dw,_,rfl,I7.hx,c.cl,c.hold,(by show 2 < 1000;decide),?_⟩
 have I8:=I7.setx "hold" (.ref ho)
 have nehs:=hA.ne
 clear I7 I6 kp hA sA sB
 generalize upd H7 x (.ins CW dw (putF "hold" (.ref ho) (putF "goals" (.ref gd) (putF "rows" (.ref rl) []))))=H8 at I8
 refine ⟨by show 0≤sizeLine;decide,fun wl hwl=>?_⟩
 have n4:hl'≠wl:=I8.nen hwl (o:=.lst []) (by simp)
 have n5:sl≠wl:=I8.nen hwl (o:=.lst []) (by simp)
 have I9:=I8.new (o:=.lst []) hwl
 have nrw:rl≠wl:=I8.nen hwl (o:=.lst (as.map V.ref)) (by simp)
 have nwx:wl≠x:=(ze I8.hx hwl).symm
 have fwl:=fresh I8 hwl
 refine ⟨_,rfl,x,CW,dw,_,rfl,I9.hx,c.cl,c.wards,(by show 3 < 1000;decide),?_⟩
 have I10:=I9.setx "wards" (.ref wl)
 clear I9 I8
 generalize upd (upd H8 wl (.lst [])) x (.ins CW dw (putF "wards" (.ref wl) (putF "hold" (.ref ho) (putF "goals" (.ref gd) (putF "rows" (.ref rl) [])))))=H10 at I10
 refine ⟨by show 0≤sizeLine;decide,fun pl hpl=>?_⟩
 have n3:rl≠pl:=I10.nen hpl (o:=.lst (as.map V.ref)) (by simp)
 have n6:wl≠pl:=I10.nen hpl (o:=.lst []) (by simp)
 have n7:hl'≠pl:=I10.nen hpl (o:=.lst []) (by simp)
 have n8:sl≠pl:=I10.nen hpl (o:=.lst []) (by simp)
 have fpl:=fresh I10 hpl
 have I11:=I10.new (o:=.lst []) hpl
 refine ⟨_,rfl,x,CW,dw,_,rfl,I11.hx,c.cl,c.passed,(by show 4 < 1000;decide),?_⟩
 have I12:=I11.setx "passed" (.ref pl)
 clear I11 I10
 generalize upd (upd H10 pl (.lst [])) x (.ins CW dw (putF "passed" (.ref pl) (putF "wards" (.ref wl) (putF "hold" (.ref ho) (putF "goals" (.ref gd) (putF "rows" (.ref rl) []))))))=H12 at I12
 refine ⟨_,rfl,x,CW,dw,_,rfl,I12.hx,c.cl,c.ending,(by show 5 < 1000;decide),?_⟩
 have I13:=I12.setx "ending" (.ref oa)
 clear I12
 generalize upd H12 x (.ins CW dw (putF "ending" (.ref oa) (putF "passed" (.ref pl) (putF "wards" (.ref wl) (putF "hold" (.ref ho) (putF "goals" (.ref gd) (putF "rows" (.ref rl) [])))))))=H13 at I13
 have hrl13:H13 rl=some (.lst (as.map V.ref)):=(I13.held (rl,.lst (as.map V.ref)) (by simp)).1
 have hho13:=(I13.held (ho,.ins CH dx [("held",.ref hl'),("known",.ref kd),("said",.ref sl)]) (by simp)).1
 have hhl13:=(I13.held (hl',.lst []) (by simp)).1
 have hwl13:=(I13.held (wl,.lst []) (by simp)).1
 have hpl13:=(I13.held (pl,.lst []) (by simp)).1
 have hgd13:=(I13.held (gd,.dK kg) (by simp)).1
 have hkd13:=(I13.held (kd,.dK kvs) (by simp)).1
 have hsl13:=(I13.held (sl,.lst []) (by simp)).1
 refine ⟨_,rfl,x,dw,_,rfl,I13.hx,rfl,x,dw,rl,wl,ho,dx,hl',_,_,as,[],rs,[],[],0,n,p',gs',rfl,I13.hx,rfl,rfl,rfl,hho13,rfl,hhl13,hrl13,rowsK I13,hwl13,.nil,nrw,n4,hcm,fun gas' H14 k14 v1 v2=>?_⟩
 refine ⟨_,rfl,x,CW,dw,_,rfl,k14 _ _ I13.hx nwx.symm,c.cl,c.here,(by show 6 < 1000;decide),?_⟩
 have kx:∀{b o},H13 b=some o→b≠wl→b≠x→(upd H14 x (.ins CW dw (putF "here" (.int (p':Nat)) (putF "ending" (.ref oa) (putF "passed" (.ref pl) (putF "wards" (.ref wl) (putF "hold" (.ref ho) (putF "goals" (.ref gd) (putF "rows" (.ref rl) []))))))))) b=some o:=fun e h1 h2=>by rw [zf h2];exact k14 _ _ e h1
 have sx15:Same H0 (upd H14 x (.ins CW dw (putF "here" (.int (p':Nat)) (putF "ending" (.ref oa) (putF "passed" (.ref pl) (putF "wards" (.ref wl) (putF "hold" (.ref ho) (putF "goals" (.ref gd) (putF "rows" (.ref rl) []))))))))):=fun b o e=>kx (I13.sx b o (s0 _ _ e) (ze e hx0)) (ze e fwl) (ze e hx0)
 have kt:qr H14 (upd H14 x (.ins CW dw (putF "here" (.int (p':Nat)) (putF "ending" (.ref oa) (putF "passed" (.ref pl) (putF "wards" (.ref wl) (putF "hold" (.ref ho) (putF "goals" (.ref gd) (putF "rows" (.ref rl) []))))))))):=qr.upd (k14 _ _ I13.hx nwx.symm) rfl
 refine q ⟨x,dw,rl,gd,ho,wl,pl,hl',kd,sl,dx⟩ _ rfl ⟨sx15,hx0,fpl,fh1,fh2,fh3,fwl,fho,⟨oa,zb,to.sq _⟩,⟨as,kx hrl13 nrw (zC hrl13 I13.hx nofun),(rowsK I13).keep fun b xs e=>kx e (zC e hwl13 nofun) (zC e I13.hx nofun)⟩,⟨kg,kx hgd13 (zC hgd13 hwl13 nofun) (zC hgd13 I13.hx nofun),hL⟩,
  ⟨kx hho13 (zC hho13 hwl13 nofun) nhx,kx hhl13 n4 (zC hhl13 I13.hx nofun),kx hkd13 (zC hkd13 hwl13 nofun) (zC hkd13 I13.hx nofun),kx hsl13 n5 (zC hsl13 I13.hx nofun),nehs⟩,⟨gas',by rw [zf nwx];exact v1,v2.keep kt⟩,kx hpl13 n6.symm (zC hpl13 I13.hx nofun),n1,n2,n3,n4.symm,n5.symm,n6,n7.symm,n8.symm,n9,nhx.symm,nrw⟩
end
noncomputable def Z5 (rs:List Row) (steps:Nat):Nat→Mst→List Gd→List Nat→List V→Option Nat→Option (Mst × List Nat × List V)
 | _,m,_,pas,e,none=>some (m,pas,e)
 | 0,m,_,pas,e,some _=>if pas.length < steps then none else some (m,pas,e)
 | n+1,m,gs,pas,e,some p=>if pas.length < steps then (if e=[.str "on"] then (match Qh rs m gs pas p with
   | some (m',gs',pas',e',here')=>Z5 rs steps n m' gs' pas' e' here'
   | none=>none) else none) else some (m,pas,e)
noncomputable def runM (rs:List Row) (kvs:List (Key × V)) (steps:Nat):Option (List V × List V × Nat):=match Q1 rs with
 | none=>none
 | some _=>match qN rs 0 200 0 [] with
  | none=>none
  | some (p0,g0)=>match Z5 rs steps 500 ⟨[],kvs,[]⟩ g0 [] [.str "on"] (some p0) with
   | some (m,pas,e)=>some (e,m.sd,pas.length)
   | none=>none
theorem z4e {rs:List Row} {m m':Mst} {gs gs':List Gd} {pas pas':List Nat} {p:Nat} {e':List V} {here':Option Nat} (h:Qh rs m gs pas p=some (m',gs',pas',e',here')):pas'.length≤1001:=by
 unfold Qh at h
 have go:qC pas.length=true→(pas++[p]).length≤1001:=fun z=>by
  have:=kE z
  rw [kl]
  show pas.length+1≤1001
  lia
 repeat' split at h
 all_goals first
  | (cases h)
  | skip
 all_goals (first | exact go (by assumption) | skip)
section
variable {CW CH:Addr}
def z7D (K:ky):Sp:=fun vs H Q _=>∃(l d:Addr) (as:List Addr) (rs:List Row) (kvs:List (Key × V)) (steps:Nat) (e sd:List V) (n:Nat),vs=[.ref l,.ref d,.int (steps:Nat)]∧H l=some (.lst (as.map V.ref))∧zS H as rs∧Code rs∧H d=some (.dK kvs)∧QZ kvs∧steps≤100000∧runM rs kvs steps=some (e,sd,n)∧
 ∀t ea tl H',Same H H'→H' t=some (.tup [.ref ea,.ref tl,.int (n:Nat)])→SqT K H' ea e→H' tl=some (.lst sd)→Q (.ref t) H'
theorem z7O:zj ["code","names","steps","walk"] ["code","names","steps"] (zd (top 100)):=fsM
def RunW (K:ky) (H:Hp) (CW CH:Addr) (rs:List Row) (l d:Addr) (steps:Nat) (wk:Addr) (mE:Mst) (pasE:List Nat) (eE:List V) (k:Nat) (σ:L2.St) (H2:Hp):Prop:=∃a m gs pas e here,a.wk=wk∧σ=[some (.ref l),some (.ref d),some (.int (steps:Nat)),some (.ref wk)]∧qg K H H2 CW CH a rs m gs pas e here∧Z5 rs steps k m gs pas e here=some (mE,pasE,eE)∧pas.length≤1001
theorem z8q (D:zo K mg "run" (top 100)) (c:QW K CW) (G:Glo mg) (hmW:mg "Walk"=some (.ref CW)) (FI:IN P w K mg base 11 CW ["self","code","names"] (z5z K CW CH)) (FS:FN P w K mg base 3 "check_steps" ["thing"] z5C) (FP:MN P w K mg base 1 CW "place" ["self"] (z2O K CW CH))
  (FL:MN P w K mg base 1 CW "__len__" ["self"] (z67 K CW CH)) (FT:MN P w K mg base 6 CW "step" ["self"] (z5u K CW CH)) (FE:MN P w K mg base 1 CW "end" ["self"] (z69 K CW CH)) (FO:MN P w K mg base 1 CW "told" ["self"] (z2L K CW CH)):FN P w K mg base 13 "run" ["code","names","steps"] (z7D K):=by
 refine FN.o D z7O fun f cdv A outer s H vs Q E hr h=>?_
 obtain ⟨l,d,as,rs,kvs,steps,e,sd,n,rfl,hl,hR,hc,hd,hn,hs,hrun,q⟩:=h
 have hr1:=hr.mono (show 1≤12 by decide)
 have hr2:=hr.mono (show 2≤12 by decide)
 obtain ⟨fL,fdL,hmL,hbL,FL'⟩:=FL
 have lenR:=JY (X:=(cxOf CX0 P w K mg base ["code","names","steps","walk"] "run" (zd (top 100)) f cdv A outer s H E).nox) hmL.at_ hmL.fn FL' hr2.in1 hbL
 unfold runM at hrun
 cases hfin:Q1 rs with
 | none=>rw [hfin] at hrun;cases hrun
 | some fin=>
  rw [hfin] at hrun
  dsimp only at hrun
  cases hcm:qN rs 0 200 0 [] with
  | none=>rw [hcm] at hrun;cases hrun
  | some pg0=>
   obtain ⟨p0,g0⟩:=pg0
   rw [hcm] at hrun
   dsimp only at hrun
   cases hlp:Z5 rs steps 500 ⟨[],kvs,[]⟩ g0 [] [.str "on"] (some p0) with
   | none=>rw [hlp] at hrun;cases hrun
   | some fin2=>
    obtain ⟨mE,pasE,eE⟩:=fin2
    rw [hlp] at hrun
    injection hrun with hrun
    injection hrun with z1 z2
    injection z2 with z2 z3
    subst z1 z2 z3
    refine ⟨_,z8 (zA (i:=3) z7O.nd rfl (Or.inl rfl) (z7Z FI hr rfl hmW (z6 (pv 0) (z6 (pv 1) z7))))
     (z8 (zk (zp FS (hr.mono (by decide)) rfl (z6 (pv 2) z7)))
     (z8 (ZC PassesOwn.never (PW.pt (J8 (zl Q4 (z1D (pv 3) c.cl FP hr1) qc (zn _)) (Q3 (zl Qj (zy lenR rfl G.len qt (z6 (pv 3) z7)) (pv 2) (zn _)))))
      (zc (zk (z1D (pv 3) c.cl FT (hr.mono (by decide))))))
     (zc (zm (zE (z6 (z1D (pv 3) c.cl FE hr1) (z6 (z1D (pv 3) c.cl FO hr1) (z6 (zy lenR rfl G.len qt (z6 (pv 3) z7)) z7)))))))),?_⟩
    try dsimp only [L2.cxOf,L2.Cx.nox]
    refine ⟨_,rfl,_,rfl,fun x dx hx hdx ndx=>?_⟩
    have sA:=zh hdx (.own x)
    have hx':(upd H dx (.own x)) x=none:=by rw [zf ndx.symm];exact hx
    have sB:=sA.trans (zh hx' (.ins CW dx []))
    refine ⟨x,l,d,dx,as,rs,fin,kvs,200,p0,g0,H,rfl,zb,hx,sB,sB _ _ hl,hR.same sB,hc,hfin,sB _ _ hd,hn,hcm,fun a0 H1 hw W=>⟨rfl,?_⟩⟩
    subst hw
    refine ⟨_,rfl,steps,rfl,hs,?_⟩
    refine ⟨RunW K H CW CH rs l d steps a0.wk mE pasE eE,⟨500,a0,_,_,_,_,_,rfl,rfl,W,hlp,by show 0≤1001;decide⟩,?_⟩
    clear W hlp
    rintro k σ H2 ⟨a,m,gs,pas,e,here,hwk,rfl,W,hlp,hpl⟩
    rw [←hwk]
    obtain ⟨ea,i1,i2⟩:=W.ins
    have done:(m,pas,e)=(mE,pasE,eE)→tRet (tTup (jr (z26 CW "end" (z69 K CW CH) [] E0 (tVar 3) tNil) (jr (z26 CW "told" (z2L K CW CH) [] E0 (tVar 3) tNil) (jr (tCB (fun xs H Q=>∃a dx fs,xs=[.ref a]∧H a=some (.ins CW dx fs)∧z67 K CW CH [.ref a] H (fun v H1=>∃n:Nat,v=.int n∧n≤1000000∧Q (.int n) H1) E0) (jr (tVar 3) tNil)) tNil))))
      { nx:=fun _ H'=>Q .non H',rt:=Q } [some (.ref l),some (.ref d),some (.int (steps:Nat)),some (.ref a.wk)] H2:=by
     intro he
     injection he with h1 h2
     injection h2 with h2 h3
     subst h1 h2 h3
     refine ⟨_,rfl,a.wk,a.dw,_,rfl,i1,rfl,a,H,rs,m,gs,pas,e,here,W,rfl,fun ea' hea=>?_⟩
     refine ⟨_,rfl,a.wk,a.dw,_,rfl,i1,rfl,a,H,rs,m,gs,pas,e,here,W,rfl,fun tl htl=>?_⟩
     have st:=zh htl (.lst m.sd)
     refine ⟨_,rfl,a.wk,a.dw,_,rfl,st _ _ i1,a,H,rs,m,gs,pas,e,here,W.same' st,rfl,pas.length,rfl,by lia,by show 3≤sizeLine;decide,fun t ht=>?_⟩
     have st2:=zh ht (.tup [.ref ea',.ref tl,.int (pas.length:Nat)])
     exact q t ea' tl _ ((W.same.trans st).trans st2) zb (jd st2 (jd st hea)) (st2 _ _ zb)
    refine ⟨_,rfl,a.wk,a.dw,_,rfl,i1,rfl,a,H,rs,m,gs,pas,e,here,W,rfl,rfl,_,rfl,?_⟩
    cases here with
    | none=>
     have he:some (m,pas,e)=some (mE,pasE,eE):=by unfold Z5 at hlp;exact hlp
     exact iteF (iteF (done (kD he)))
    | some p=>
     refine iteT ⟨_,rfl,a.wk,a.dw,_,rfl,i1,a,H,rs,m,gs,pas,e,some p,W,rfl,pas.length,rfl,by lia,_,rfl,_,_,rfl,rfl,_,rfl,?_⟩
     by_cases hlt:pas.length < steps
     ·rw [ki (show ((pas.length:Nat):Int) < ((steps:Nat):Int) by lia)]
      cases k with
      | zero=>unfold Z5 at hlp;rw [kC hlt] at hlp;cases hlp
      | succ k=>
       unfold Z5 at hlp
       rw [kC hlt] at hlp
       by_cases heo:e=[.str "on"]
       case neg=>rw [kz heo] at hlp;cases hlp
       rw [kC heo] at hlp
       subst heo
       cases hst:Qh rs m gs pas p with
       | none=>rw [hst] at hlp;cases hlp
       | some r=>
        obtain ⟨m',gs',pas',e',here'⟩:=r
        rw [hst] at hlp
        dsimp only at hlp
        refine iteT ⟨RunW K H CW CH rs l d steps a.wk mE pasE eE k,fun σ' H' h=>⟨k,yd _,h⟩,?_⟩
        exact ⟨_,rfl,a.wk,a.dw,_,rfl,i1,rfl,a,H,rs,m,gs,pas,p,m',gs',pas',e',here',rfl,W,hst,fun a' H' ha W'=>⟨a',m',gs',pas',e',here',ha,rfl,W',hlp,z4e hst⟩⟩
     ·rw [kh (show ¬((pas.length:Nat):Int) < ((steps:Nat):Int) by lia)]
      have he:some (m,pas,e)=some (mE,pasE,eE):=by
       cases k with
       | zero=>unfold Z5 at hlp;rw [kz hlt] at hlp;exact hlp
       | succ k=>unfold Z5 at hlp;rw [kz hlt] at hlp;exact hlp
      exact iteF (done (kD he))
end
structure jN (rs:List Row) (S:Fnd):Prop where
 len:S.length=rs.length
 zero:S[0]?=some (some (0,[]))
 here:∀(p:Nat) r s,rs[p]?=some r→S[p]?=some (some s)→Zy rs p r s.1 s.2.getLast?=[]∧s.2.length≤1000
 next:∀(p:Nat) r s,rs[p]?=some r→S[p]?=some (some s)→∀x s',(x,s')∈Ql rs p r s→∃j:Nat,x=.int (j:Int)∧S[j]?=some (some s')
def Sub (f S:Fnd):Prop:=∀(p:Nat) s,f[p]?=some (some s)→S[p]?=some (some s)
noncomputable def JE (f:Fnd):Nat:=(f.filter Option.isNone).length
theorem QH:∀{f:Fnd} {j:Nat} {s:Sta},f[j]?=some none→JE (f.set j (some s))+1=JE f
 | [],_,_,h=>by cases h
 | o :: f,0,s,h=>by
  cases h
  rfl
 | o :: f,j+1,s,h=>by
  have ih:=QH (f:=f) (j:=j) (s:=s) h
  unfold JE at ih ⊢
  rw [List.set_cons_succ,List.filter_cons,List.filter_cons]
  cases o with
  | none=>simp only [Option.isNone_none,if_true,kQ];lia
  | some x=>simp only [Option.isNone_some,Bool.false_eq_true,if_false];exact ih
theorem z4m {S:Fnd}:∀(ns:List (V × Sta)) (f:Fnd) (w:List Nat),(∀x s',(x,s')∈ns→∃j:Nat,x=.int (j:Int)∧S[j]?=some (some s'))→f.length=S.length→Sub f S→(∀p∈w,∃s,f[p]?=some (some s))→
  ∃f' w',J0 ns f w=some (f',w')∧f'.length=S.length∧Sub f' S∧(∀p∈w',∃s,f'[p]?=some (some s))∧JE f'+w'.length=JE f+w.length∧(∀(p:Nat) s,f[p]?=some (some s)→f'[p]?=some (some s))
 :=by
 intro ns
 induction ns with
 | nil=>intro f w _ hl hs hw;exact ⟨f,w,rfl,hl,hs,hw,rfl,fun _ _ e=>e⟩
 | cons hd ns ih=>
  obtain ⟨x,s⟩:=hd
  intro f w hn hl hs hw
  obtain ⟨j,rfl,hj⟩:=hn x s (kR ..)
  have hjl:j < f.length:=by rw [hl];exact (kf.mp hj).1
  have hn':=fun x s' h=>hn x s' (kS _ h)
  unfold J0
  dsimp only
  rw [kC (by lia),yc]
  cases e:f[j]? with
  | none=>rw [kM hjl] at e;cases e
  | some o=>
   cases o with
   | none=>
    dsimp only
    have keep:∀(p:Nat) s0,f[p]?=some (some s0)→(f.set j (some s))[p]?=some (some s0):=fun p s0 h=>by
     by_cases hp:p=j
     ·subst hp;rw [e] at h;cases h
     ·rw [List.getElem?_set_ne (Ne.symm hp)];exact h
    obtain ⟨f',w',h1,h2,h3,h4,h5,h6⟩:=ih (f.set j (some s)) (w++[j]) hn' (by rw [List.length_set];exact hl)
     (fun p s0 h=>by
      by_cases hp:p=j
      ·subst hp
       rw [List.getElem?_set_self hjl] at h
       cases h
       exact hj
      ·rw [List.getElem?_set_ne (Ne.symm hp)] at h
       exact hs p s0 h)
     (fun p hp=>by
      rcases kW.mp hp with h | h
      ·obtain ⟨s0,h⟩:=hw p h
       exact ⟨s0,keep p s0 h⟩
      ·rw [ko.mp h]
       exact ⟨s,List.getElem?_set_self hjl⟩)
    refine ⟨f',w',h1,h2,h3,h4,?_,fun p s0 h=>h6 p s0 (keep p s0 h)⟩
    have:=QH (s:=s) e
    rw [kl,kH] at h5
    lia
   | some s'=>
    have e2:s'=s:=by
     have:=hs j s' e
     rw [hj] at this
     cases this
     rfl
    dsimp only
    rw [kC e2]
    exact ih f w hn' hl hs hw
theorem z8L {rs:List Row} {S:Fnd} (T:jN rs S):∀(n:Nat) (f:Fnd) (w:List Nat),f.length=S.length→Sub f S→(∀p∈w,∃s,f[p]?=some (some s))→JE f+w.length≤n→
  ∃fin,bfs rs n f w=some fin∧fin.length=S.length∧Sub fin S
 :=by
 have nil:∀(n:Nat) (f:Fnd),f.length=S.length→Sub f S→∃fin,bfs rs n f []=some fin∧fin.length=S.length∧Sub fin S:=fun n f hl hs=>⟨f,by cases n <;> rfl,hl,hs⟩
 intro n
 induction n with
 | zero=>
  intro f w hl hs hw hn
  cases w with
  | nil=>exact nil _ f hl hs
  | cons p w=>simp at hn
 | succ n ih=>
  intro f w hl hs hw hn
  cases w with
  | nil=>exact nil _ f hl hs
  | cons p w=>
   obtain ⟨s,hp⟩:=hw p (kR ..)
   have hS:=hs p s hp
   have hpl:p < rs.length:=by rw [←T.len];exact (kf.mp hS).1
   have er:rs[p]?=some rs[p]:=kM hpl
   obtain ⟨h1,h2⟩:=T.here p rs[p] s er hS
   unfold bfs
   rw [er,hp]
   dsimp only
   rw [kC ⟨by rw [h1];rfl,h2⟩]
   obtain ⟨f',w',e1,e2,e3,e4,e5,_⟩:=z4m (Ql rs p rs[p] s) f w (T.next p rs[p] s er hS) hl hs fun q hq=>hw q (kS _ hq)
   rw [e1]
   dsimp only
   rw [kQ] at hn
   exact ih f' w' e2 e3 e4 (by lia)
theorem z0m:∀n:Nat,JE (List.replicate n none)=n
 | 0=>rfl
 | n+1=>by
  have ih:=z0m n
  unfold JE at ih ⊢
  rw [List.replicate_succ,List.filter_cons]
  simp only [Option.isNone_none,if_true,kQ]
  lia
theorem z0a {rs:List Row} {S:Fnd} (T:jN rs S) (hn:rs.length≤299):∃fin,Q1 rs=some fin∧fin.length=rs.length∧Sub fin S:=by
 have h0:0 < rs.length:=by rw [←T.len];exact (kf.mp T.zero).1
 have e0:(List.replicate rs.length (none:Option Sta))[0]?=some none:=by rw [List.getElem?_replicate,kC h0]
 have hset:=QH (s:=((0,[]):Sta)) e0
 rw [z0m] at hset
 obtain ⟨fin,h1,h2,h3⟩:=z8L T 300 ((List.replicate rs.length none).set 0 (some (0,[]))) [0] (by rw [List.length_set,List.length_replicate,T.len])
  (fun p s h=>by
   by_cases hp:p=0
   ·subst hp
    rw [List.getElem?_set_self (by rw [List.length_replicate];exact h0)] at h
    cases h
    exact T.zero
   ·rw [List.getElem?_set_ne (Ne.symm hp),List.getElem?_replicate] at h
    split at h
    ·cases h
    ·cases h)
  (fun p hp=>by
   rw [ko.mp hp]
   exact ⟨_,List.getElem?_set_self (by rw [List.length_replicate];exact h0)⟩)
  (by show JE _+1≤300;lia)
 exact ⟨fin,h1,by rw [h2,T.len],h3⟩
noncomputable def Qk (r:Row) (s:Sta):Option Sta:=if inT r.op qp=true then none else some (zG r s.1,zW r s.1 s.2 (tabI zU r.op))
noncomputable def tgts (r:Row) (s:Sta):List (Int × Sta):=
 (if inT r.op jumping=true then [(argM r.arg,((if inT r.op leaving=true then s.1 else zG r s.1),s.2))] else [])++
 (if inT r.op faulting=true then (match s.2.getLast? with
  | some g=>[(g.1,(g.2+1,s.2.dropLast))]
  | none=>[]) else [])
noncomputable def jA (r:Row) (s:Sta):Bool:= !decide (s.1 < zV r)&& !Zp r s.2.getLast?&& !qB r s.1 s.2.getLast?&&decide (s.2.length≤1000)
noncomputable def chk (Γ:Int→Option Sta):List Row→Option Sta→Option (Option Sta)
 | [],c=>some c
 | r :: l,c=>
  if r.op="label" then (match Γ (argM r.arg),c with
   | some s,some s'=>if s=s'∧jA r s=true then chk Γ l (some s) else none
   | some s,none=>if jA r s=true then chk Γ l (some s) else none
   | none,none=>chk Γ l none
   | none,some _=>none)
  else (match c with
   | none=>chk Γ l none
   | some s=>if jA r s=true∧(tgts r s).all (fun t=>decide (Γ t.1=some t.2))=true then chk Γ l (Qk r s) else none)
noncomputable def stOf (Γ:Int→Option Sta):List Row→Option Sta→Fnd
 | [],_=>[]
 | r :: l,c=>
  if r.op="label" then Γ (argM r.arg) :: stOf Γ l (Γ (argM r.arg))
  else c :: stOf Γ l (match c with
   | none=>none
   | some s=>Qk r s)
theorem Qq (Γ:Int→Option Sta):∀(l:List Row) (c:Option Sta),(stOf Γ l c).length=l.length
 | [],_=>rfl
 | r :: l,c=>by
  unfold stOf
  split
  ·rw [kQ,Qq Γ l,kQ]
  ·rw [kQ,Qq Γ l,kQ]
theorem Zi (Γ:Int→Option Sta) (r:Row) (l:List Row) (c:Option Sta):chk Γ (r :: l) c=
  if r.op="label" then (match Γ (argM r.arg),c with
   | some s,some s'=>if s=s'∧jA r s=true then chk Γ l (some s) else none
   | some s,none=>if jA r s=true then chk Γ l (some s) else none
   | none,none=>chk Γ l none
   | none,some _=>none)
  else (match c with
   | none=>chk Γ l none
   | some s=>if jA r s=true∧(tgts r s).all (fun t=>decide (Γ t.1=some t.2))=true then chk Γ l (Qk r s) else none):=rfl
theorem zr (Γ:Int→Option Sta):∀(a b:List Row) (c:Option Sta),chk Γ (a++b) c=(chk Γ a c).bind fun c'=>chk Γ b c'
 :=by
 intro a
 induction a with
 | nil=>intro b c;rfl
 | cons r a ih=>
  intro b c
  rw [List.cons_append,Zi,Zi]
  by_cases hl:r.op="label"
  ·rw [kC hl,kC hl]
   cases Γ (argM r.arg) with
   | none=>cases c with
    | none=>exact ih b _
    | some s'=>rfl
   | some s=>cases c with
    | none=>
     dsimp only
     by_cases hz:jA r s=true
     ·rw [kC hz,kC hz];exact ih b _
     ·rw [kz hz,kz hz];rfl
    | some s'=>
     dsimp only
     by_cases hz:s=s'∧jA r s=true
     ·rw [kC hz,kC hz];exact ih b _
     ·rw [kz hz,kz hz];rfl
  ·rw [kz hl,kz hl]
   cases c with
   | none=>exact ih b _
   | some s=>
    dsimp only
    by_cases hz:jA r s=true∧(tgts r s).all (fun t=>decide (Γ t.1=some t.2))=true
    ·rw [kC hz,kC hz];exact ih b _
    ·rw [kz hz,kz hz];rfl
structure Fits (Γ:Int→Option Sta) (l:List Row) (S:Fnd) (i:Nat) (r:Row) (s:Sta):Prop where
 ok:jA r s=true
 tg:∀t∈tgts r s,Γ t.1=some t.2
 nx:∀s',Qk r s=some s'→S[i+1]?=some (some s')
theorem z1h:inT "label" qp=false:=by trivial
theorem z2o (r:Row) (h:r.op="label") (s:Sta):Qk r s=some s:=by
 unfold Qk
 rw [h,z1h,kz ka]
 unfold zG
 rw [h]
 have e1:tabI zH "label"=0:=by trivial
 have e2:tabI zO "label"=0:=by trivial
 have e3:tabI zU "label"=0:=by trivial
 rw [e1,e2,e3]
 unfold zW
 rw [kz (by decide),kz (by decide)]
 simp
theorem z2n (r:Row) (h:r.op="label") (s:Sta):tgts r s=[]:=by
 unfold tgts
 have e1:inT "label" jumping=false:=by trivial
 have e2:inT "label" faulting=false:=by trivial
 rw [h,e1,e2,kz ka,kz ka]
 rfl
theorem z0T {Γ:Int→Option Sta} {l:List Row} {s:Sta} {c':Option Sta} (h:chk Γ l (some s)=some c') (hc:c'=none):(stOf Γ l (some s))[0]?=some (some s):=by
 cases l with
 | nil=>cases h;cases hc
 | cons r l=>
  unfold chk at h
  unfold stOf
  by_cases hl:r.op="label"
  ·rw [kC hl] at h
   rw [kC hl]
   cases e:Γ (argM r.arg) with
   | none=>rw [e] at h;cases h
   | some s2=>
    rw [e] at h
    dsimp only at h
    by_cases hz:s2=s∧jA r s2=true
    ·rw [hz.1];rfl
    ·rw [kz hz] at h;cases h
  ·rw [kz hl]
   rfl
theorem z5i {Γ:Int→Option Sta}:∀(l:List Row) (c:Option Sta),chk Γ l c=some none→∀(i:Nat) r s,l[i]?=some r→(stOf Γ l c)[i]?=some (some s)→Fits Γ l (stOf Γ l c) i r s
 :=by
 intro l
 induction l with
 | nil=>intro _ _ i r s hr _;cases hr
 | cons r0 l ih=>
  intro c h i r s hr hs
  unfold chk at h
  unfold stOf at hs ⊢
  by_cases hl:r0.op="label"
  ·rw [kC hl] at h hs ⊢
   have go:∀{c2:Option Sta},Γ (argM r0.arg)=c2→chk Γ l c2=some none→(∀s0,c2=some s0→jA r0 s0=true)→Fits Γ (r0 :: l) (Γ (argM r0.arg) :: stOf Γ l (Γ (argM r0.arg))) i r s:=by
    intro c2 e h2 hok
    rw [e] at hs ⊢
    cases i with
    | zero=>
     cases hr
     have es:c2=some s:=by simpa using hs
     subst es
     refine ⟨hok s rfl,fun t ht=>?_,fun s' hn=>?_⟩
     ·rw [z2n r0 hl] at ht;cases ht
     ·rw [z2o r0 hl] at hn
      cases hn
      exact z0T h2 rfl
    | succ i=>
     have F:=ih c2 h2 i r s hr hs
     exact ⟨F.ok,F.tg,F.nx⟩
   cases e:Γ (argM r0.arg) with
   | none=>
    rw [e] at h
    cases c with
    | some s'=>cases h
    | none=>have:=go e h (fun _ z=>by cases z);rw [e] at this;exact this
   | some s2=>
    rw [e] at h
    cases c with
    | some s'=>
     dsimp only at h
     by_cases hz:s2=s'∧jA r0 s2=true
     ·rw [kC hz] at h
      have:=go e h (fun _ z=>by cases z;exact hz.2);rw [e] at this;exact this
     ·rw [kz hz] at h;cases h
    | none=>
     dsimp only at h
     by_cases hz:jA r0 s2=true
     ·rw [kC hz] at h
      have:=go e h (fun _ z=>by cases z;exact hz);rw [e] at this;exact this
     ·rw [kz hz] at h;cases h
  ·rw [kz hl] at h hs ⊢
   cases c with
   | none=>
    dsimp only at h hs ⊢
    cases i with
    | zero=>cases hs
    | succ i=>
     have F:=ih none h i r s hr hs
     exact ⟨F.ok,F.tg,F.nx⟩
   | some s0=>
    dsimp only at h hs ⊢
    by_cases hz:jA r0 s0=true∧(tgts r0 s0).all (fun t=>decide (Γ t.1=some t.2))=true
    case neg=>rw [kz hz] at h;cases h
    rw [kC hz] at h
    cases i with
    | zero=>
     cases hr
     cases hs
     refine ⟨hz.1,fun t ht=>kE (List.all_eq_true.mp hz.2 t ht),fun s' hn=>?_⟩
     rw [hn] at h ⊢
     exact z0T h rfl
    | succ i=>
     have F:=ih _ h i r s hr hs
     exact ⟨F.ok,F.tg,F.nx⟩
theorem Jq {Γ:Int→Option Sta}:∀(l:List Row) (c:Option Sta) (q:Nat) (r:Row),l[q]?=some r→r.op="label"→(stOf Γ l c)[q]?=some (Γ (argM r.arg))
 | [],_,_,_,h,_=>by cases h
 | r0 :: l,c,0,r,h,hl=>by
  cases h
  unfold stOf
  rw [kC hl]
  rfl
 | r0 :: l,c,q+1,r,h,hl=>by
  unfold stOf
  split
  ·exact Jq l _ q r h hl
  ·exact Jq l _ q r h hl
theorem z8g {rs:List Row} {m:Int} {q:Nat} (h:zw rs m=some q):∃r,rs[q]?=some r∧r.op="label"∧argM r.arg=m:=by
 unfold zw at h
 obtain ⟨hq,hp,_⟩:=List.findIdx?_eq_some_iff_getElem.mp h
 refine ⟨rs[q],kM hq,?_⟩
 unfold labP at hp
 rw [yf,yg,yg] at hp
 exact ⟨hp.1,by rw [hp.2];rfl⟩
theorem z4c {rs:List Row} {Γ:Int→Option Sta} (hΓ:∀m s,Γ m=some s→(zw rs m).isSome=true) (h:chk Γ rs (some (0,[]))=some none):jN rs (stOf Γ rs (some (0,[]))):=by
 have hlab:∀m s,Γ m=some s→∃q:Nat,labV rs m=.int (q:Int)∧q < rs.length∧(stOf Γ rs (some (0,[])))[q]?=some (some s):=by
  intro m s e
  obtain ⟨q,hq⟩:=Option.isSome_iff_exists.mp (hΓ m s e)
  obtain ⟨r,hr,ho,ha⟩:=z8g hq
  refine ⟨q,by unfold labV;rw [hq],(kf.mp hr).1,?_⟩
  rw [Jq rs _ q r hr ho,ha,e]
 have F:=z5i rs (some (0,[])) h
 have lead:∀(p:Nat) r s,rs[p]?=some r→(stOf Γ rs (some (0,[])))[p]?=some (some s)→∀m∈j8 rs p r s.1 s.2.getLast?,∃j:Nat,m.1=.int (j:Int)∧j < rs.length∧(stOf Γ rs (some (0,[])))[j]?=some (some (m.2.1,zW r s.1 s.2 m.2.2)):=by
  intro p r s hr hs m hm
  have f:=F p r s hr hs
  have hok:=f.ok
  unfold jA at hok
  simp only [yf,Bool.not_eq_true',yg,decide_eq_false_iff_not] at hok
  obtain ⟨⟨⟨k1,k2⟩,k3⟩,k4⟩:=hok
  unfold j8 at hm
  rw [kh k1,kz ka,k2,kz ka] at hm
  rcases kW.mp hm with hm | hm
  ·rcases kW.mp hm with hm | hm
   ·unfold mv1 at hm
    by_cases hn:inT r.op qp=true
    ·rw [kC hn] at hm;cases hm
    ·rw [kz hn] at hm
     rw [ko.mp hm]
     have e:=f.nx (zG r s.1,zW r s.1 s.2 (tabI zU r.op)) (by unfold Qk;rw [kz hn])
     refine ⟨p+1,by push_cast;rfl,?_,e⟩
     have:=(kf.mp e).1
     rw [Qq] at this
     exact this
   ·unfold mv2 at hm
    by_cases hj:inT r.op jumping=true
    ·rw [kC hj] at hm
     rw [ko.mp hm]
     obtain ⟨q,h1,h2,h3⟩:=hlab _ _ (f.tg (argM r.arg,((if inT r.op leaving=true then s.1 else zG r s.1),s.2)) (by
      unfold tgts
      rw [kC hj]
      exact kP _ (ko.mpr rfl)))
     refine ⟨q,h1,h2,?_⟩
     have e0:zW r s.1 s.2 0=s.2:=by unfold zW;rw [kz (by decide),kz (by decide)]
     show _=some (some ((if inT r.op leaving=true then s.1 else zG r s.1),zW r s.1 s.2 0))
     rw [e0]
     exact h3
    ·rw [kz hj] at hm;cases hm
  ·unfold mv3 at hm
   by_cases hf:inT r.op faulting=true
   ·rw [kC hf] at hm
    cases hg:s.2.getLast? with
    | none=>rw [hg] at hm;cases hm
    | some g=>
     rw [hg] at hm
     rw [ko.mp hm]
     obtain ⟨q,h1,h2,h3⟩:=hlab _ _ (f.tg (g.1,(g.2+1,s.2.dropLast)) (by
      unfold tgts
      rw [kC hf,hg]
      exact kO _ (ko.mpr rfl)))
     refine ⟨q,h1,h2,?_⟩
     have e0:zW r s.1 s.2 (-1)=s.2.dropLast:=by unfold zW;rw [kz (by decide),kC rfl]
     show _=some (some (g.2+1,zW r s.1 s.2 (-1)))
     rw [e0]
     exact h3
   ·rw [kz hf] at hm;cases hm
 refine ⟨Qq _ _ _,z0T h rfl,fun p r s hr hs=>?_,fun p r s hr hs x s' hx=>?_⟩
 ·have hok:=(F p r s hr hs).ok
  unfold jA at hok
  simp only [yf,Bool.not_eq_true',yg,decide_eq_false_iff_not] at hok
  obtain ⟨⟨⟨k1,k2⟩,k3⟩,k4⟩:=hok
  refine ⟨?_,k4⟩
  have hend:inV (.int (rs.length:Nat)) ((j8 rs p r s.1 s.2.getLast?).map (·.1))=false:=by
   unfold inV
   rw [List.any_eq_false]
   intro y hy
   obtain ⟨m,hm,rfl⟩:=yh.mp hy
   obtain ⟨j,h1,h2,_⟩:=lead p r s hr hs m hm
   rw [h1]
   intro z
   have z:decide ((j:Int)=(rs.length:Int))=true:=by
    first
     | exact z
     | simpa [eqV] using z
   have:=kE z
   lia
  unfold Zy Qa
  rw [kh k1,k2,k3,hend]
  rfl
 ·unfold Ql at hx
  obtain ⟨m,hm,e⟩:=yh.mp hx
  cases e
  obtain ⟨j,h1,_,h3⟩:=lead p r s hr hs m hm
  exact ⟨j,h1,h3⟩
structure GOk (d:Int) (gs:List Gd) (n:Nat):Prop where
 pos:0≤d
 len:gs.length+n≤1000
 top:∀g,gs.getLast?=some g→g.2≤d
def GEnv (Γ:Int→Option Sta) (gs:List Gd):Prop:=∀g,gs.getLast?=some g→Γ g.1=some (g.2+1,gs.dropLast)
def Ext (Γ Γl:Int→Option Sta) (k k':Nat):Prop:=∀m:Nat,k≤m→m < k'→Γ (m:Int)=Γl (m:Int)
structure Ty (δ:Int) (sure:Bool) (k k':Nat) (l:List Row):Prop where
 go:∀d gs,GOk d gs l.length→∃(Γl:Int→Option Sta) (c':Option Sta),(c'=some (d+δ,gs)∨(sure=false∧c'=none))∧∀Γ,Ext Γ Γl k k'→GEnv Γ gs→chk Γ l (some (d,gs))=some c'
 off:∀Γ:Int→Option Sta,(∀m:Nat,k≤m→m < k'→Γ (m:Int)=none)→chk Γ l none=some none
theorem Ty.nil (k:Nat):Ty 0 true k k []:=⟨fun d gs _=>⟨fun _=>none,some (d,gs),.inl (by rw [Int.add_zero]),fun _ _ _=>rfl⟩,fun _ _=>rfl⟩
theorem Ty.app {δ1 δ2:Int} {s1 s2:Bool} {k k1 k2:Nat} {a b:List Row} (x:Ty δ1 s1 k k1 a) (y:Ty δ2 s2 k1 k2 b) (h1:k≤k1) (h2:k1≤k2) (hp:0≤δ1):Ty (δ1+δ2) (s1&&s2) k k2 (a++b):=by
 refine ⟨fun d gs hg=>?_,fun Γ hΓ=>?_⟩
 ·have hl:=hg.len
  rw [kl] at hl
  obtain ⟨Γa,ca,hca,ha⟩:=x.go d gs ⟨hg.pos,by lia,hg.top⟩
  have mix:∀Γb:Int→Option Sta,∃Γl:Int→Option Sta,∀Γ,Ext Γ Γl k k2→Ext Γ Γa k k1∧Ext Γ Γb k1 k2:=fun Γb=>
   ⟨fun m=>if m < (k1:Int) then Γa m else Γb m,fun Γ h=>⟨fun m m1 m2=>(h m m1 (by lia)).trans (kC (by lia)),fun m m1 m2=>(h m (by lia) m2).trans (kz (by lia))⟩⟩
  rcases hca with rfl | ⟨hs,rfl⟩
  ·obtain ⟨Γb,cb,hcb,hb⟩:=y.go (d+δ1) gs ⟨by have:=hg.pos;lia,by lia,fun g e=>by have:=hg.top g e;lia⟩
   obtain ⟨Γl,hm⟩:=mix Γb
   refine ⟨Γl,cb,?_,fun Γ he hE=>?_⟩
   ·rcases hcb with h | ⟨h,h'⟩
    ·exact .inl (by rw [h,Int.add_assoc])
    ·exact .inr ⟨by rw [h,Bool.and_false],h'⟩
   ·obtain ⟨e1,e2⟩:=hm Γ he
    rw [zr,ha Γ e1 hE]
    exact hb Γ e2 hE
  ·obtain ⟨Γl,hm⟩:=mix fun _=>none
   refine ⟨Γl,none,.inr ⟨by rw [hs,Bool.false_and],rfl⟩,fun Γ he hE=>?_⟩
   obtain ⟨e1,e2⟩:=hm Γ he
   rw [zr,ha Γ e1 hE]
   exact y.off Γ e2
 ·rw [zr,x.off Γ fun m m1 m2=>hΓ m m1 (by lia)]
  exact y.off Γ fun m m1 m2=>hΓ m (by lia) m2
theorem jU {Γ:Int→Option Sta} {r:Row} {s:Sta} (hl:r.op≠"label") (ho:jA r s=true) (ht:∀t∈tgts r s,Γ t.1=some t.2):chk Γ [r] (some s)=some (Qk r s):=by
 rw [Zi,kz hl]
 dsimp only
 rw [kC ⟨ho,List.all_eq_true.mpr fun t h=>ki (ht t h)⟩]
 rfl
theorem qf {Γ:Int→Option Sta} {r:Row} (hl:r.op≠"label"):chk Γ [r] none=some none:=by
 rw [Zi,kz hl]
 rfl
theorem ju {r:Row} {d:Int} {gs:List Gd} (h1:zV r≤d) (h2:∀g,gs.getLast?=some g→g.2≤d - zV r) (h3:r.op≠"endtry") (h4:gs.length≤1000):jA r (d,gs)=true:=by
 unfold jA Zp
 have e1:decide (d < zV r)=false:=kh (by lia)
 have e2:qB r d gs.getLast?=false:=by
  unfold qB
  cases e:gs.getLast? with
  | none=>rfl
  | some g=>
   have:=h2 g e
   dsimp only
   split
   ·rfl
   ·refine kh ?_
    split <;> split <;> lia
 show (!decide (d < zV r)&& !(decide (r.op="endtry")&&gs.getLast?.isNone)&& !qB r d gs.getLast?&&decide (gs.length≤1000))=true
 rw [e1,e2,kh h3,ki h4]
 rfl
structure Zv (op:Str) (a b:Int):Prop where
 lab:op≠"label"
 et:op≠"endtry"
 deep:inT op qD=false
 takes:tabI zH op=a
 pushes:tabI zO op=b
 on:inT op qp=false
 jump:inT op jumping=false
 gput:tabI zU op=0
theorem Zv.asked {op:Str} {a b:Int} (h:Zv op a b) (arg:V) (l:Int):zV ⟨op,arg,l⟩=a:=by
 unfold zV
 rw [h.deep,kz ka]
 exact h.takes
theorem Zv.chk {op:Str} {a b:Int} (h:Zv op a b) {Γ:Int→Option Sta} {d:Int} {gs:List Gd} (arg:V) (l:Int) (hd:a≤d) (hg:∀g,gs.getLast?=some g→g.2≤d - a) (hz:gs.length≤1000) (hE:GEnv Γ gs):
  chk Γ [⟨op,arg,l⟩] (some (d,gs))=some (some (d - a+b,gs)):=by
 rw [jU h.lab (ju (by rw [h.asked];exact hd) (by rw [h.asked];exact hg) h.et hz)]
 ·unfold Qk
  rw [h.on,kz ka]
  unfold zG zW
  rw [h.takes,h.pushes,h.gput,kz (by decide),kz (by decide)]
 ·intro t ht
  unfold tgts at ht
  rw [h.jump,kz ka,List.nil_append] at ht
  by_cases hf:inT op faulting=true
  ·rw [kC hf] at ht
   cases e:gs.getLast? with
   | none=>
    rw [show ((d,gs):Sta).2.getLast?=none from e] at ht
    cases ht
   | some g=>
    rw [show ((d,gs):Sta).2.getLast?=some g from e] at ht
    rw [ko.mp ht]
    exact hE g e
  ·rw [kz hf] at ht;cases ht
theorem Ty.row {δ:Int} {k k':Nat} {l:List Row} (x:Ty δ true k k' l) {op:Str} {a b:Int} (h:Zv op a b) (hd:a≤δ) (arg:V) (ln:Int):Ty (δ - a+b) true k k' (l++[⟨op,arg,ln⟩]):=by
 refine ⟨fun d gs hg=>?_,fun Γ hΓ=>?_⟩
 ·have hl:=hg.len
  rw [kl,kH] at hl
  obtain ⟨Γa,ca,hca,ha⟩:=x.go d gs ⟨hg.pos,by lia,hg.top⟩
  have hca:ca=some (d+δ,gs):=by
   rcases hca with h | ⟨h,_⟩
   ·exact h
   ·cases h
  subst hca
  refine ⟨Γa,some (d+(δ - a+b),gs),.inl rfl,fun Γ he hE=>?_⟩
  rw [zr,ha Γ he hE]
  show My.chk Γ [⟨op,arg,ln⟩] (some (d+δ,gs))=_
  rw [h.chk arg ln (by have:=hg.pos;lia) (fun g e=>by have:=hg.top g e;lia) (by lia) hE]
  congr 3
  lia
 ·rw [zr,x.off Γ hΓ]
  exact qf h.lab
theorem z6m:Zv "push" 0 1:=⟨by trivial,by trivial,by trivial,by trivial,by trivial,by trivial,by trivial,by trivial⟩
theorem z37:Zv "load" 0 1:=⟨by trivial,by trivial,by trivial,by trivial,by trivial,by trivial,by trivial,by trivial⟩
theorem z5I:∀op∈(["add","sub","mul","div","rest","less","same"]:List Str),Zv op 2 1:=by
 intro op h
 simp only [kF,kq,or_false] at h
 rcases h with rfl | rfl | rfl | rfl | rfl | rfl | rfl
 all_goals exact ⟨by trivial,by trivial,by trivial,by trivial,by trivial,by trivial,by trivial,by trivial⟩
theorem z7W:∀op∈(["neg","not"]:List Str),Zv op 1 1:=by
 intro op h
 simp only [kF,kq,or_false] at h
 rcases h with rfl | rfl
 all_goals exact ⟨by trivial,by trivial,by trivial,by trivial,by trivial,by trivial,by trivial,by trivial⟩
theorem Zo:∀op∈(["drop","tell","store"]:List Str),Zv op 1 0:=by
 intro op h
 simp only [kF,kq,or_false] at h
 rcases h with rfl | rfl | rfl
 all_goals exact ⟨by trivial,by trivial,by trivial,by trivial,by trivial,by trivial,by trivial,by trivial⟩
theorem z4p:Zv "clear" 0 0:=⟨by trivial,by trivial,by trivial,by trivial,by trivial,by trivial,by trivial,by trivial⟩
structure Op (op:Str) (a b g:Int) (on jump leave fault:Bool):Prop where
 deep:inT op qD=false
 takes:tabI zH op=a
 pushes:tabI zO op=b
 gput:tabI zU op=g
 on:inT op qp= !on
 jump:inT op jumping=jump
 leave:inT op leaving=leave
 fault:inT op faulting=fault
theorem Op.asked {op:Str} {a b g:Int} {on j lv f:Bool} (h:Op op a b g on j lv f) (arg:V) (l:Int):zV ⟨op,arg,l⟩=a:=by
 unfold zV
 rw [h.deep,kz ka]
 exact h.takes
theorem Op.next {op:Str} {a b g:Int} {on j lv f:Bool} (h:Op op a b g on j lv f) (arg:V) (l:Int) (s:Sta):Qk ⟨op,arg,l⟩ s=if on=true then some (s.1 - a+b,zW ⟨op,arg,l⟩ s.1 s.2 g) else none:=by
 unfold Qk zG
 rw [h.on,h.takes,h.pushes,h.gput]
 cases on <;> rfl
theorem Op.tg {op:Str} {a b g:Int} {on j lv f:Bool} (h:Op op a b g on j lv f) {Γ:Int→Option Sta} {m:Int} {l:Int} {d:Int} {gs:List Gd} (hj:j=true→Γ m=some ((if lv=true then d else d - a+b),gs)) (hf:f=true→GEnv Γ gs):∀t∈tgts ⟨op,.int m,l⟩ (d,gs),Γ t.1=some t.2:=by
 intro t ht
 unfold tgts zG at ht
 rw [h.jump,h.leave,h.fault,h.takes,h.pushes] at ht
 rcases kW.mp ht with ht | ht
 ·cases j with
  | false=>cases ht
  | true=>
   rw [kC rfl] at ht
   rw [ko.mp ht]
   exact hj rfl
 ·cases f with
  | false=>cases ht
  | true=>
   rw [kC rfl] at ht
   cases e:gs.getLast? with
   | none=>rw [show ((d,gs):Sta).2.getLast?=none from e] at ht;cases ht
   | some g=>
    rw [show ((d,gs):Sta).2.getLast?=some g from e] at ht
    rw [ko.mp ht]
    exact hf rfl g e
theorem z83:∀op∈(["ortrue","orfalse"]:List Str),Op op 1 0 0 true true true false∧op≠"label"∧op≠"endtry":=by
 intro op h
 simp only [kF,kq,or_false] at h
 rcases h with rfl | rfl
 all_goals exact ⟨⟨by trivial,by trivial,by trivial,by trivial,by trivial,by trivial,by trivial,by trivial⟩,by trivial,by trivial⟩
theorem z85:∀op∈(["iftrue","iffalse"]:List Str),Op op 1 0 0 true true false false∧op≠"label"∧op≠"endtry":=by
 intro op h
 simp only [kF,kq,or_false] at h
 rcases h with rfl | rfl
 all_goals exact ⟨⟨by trivial,by trivial,by trivial,by trivial,by trivial,by trivial,by trivial,by trivial⟩,by trivial,by trivial⟩
theorem JD:Op "jump" 0 0 0 false true false false:=⟨by trivial,by trivial,by trivial,by trivial,by trivial,by trivial,by trivial,by trivial⟩
theorem z1I:Op "try" 0 0 1 true false false false:=⟨by trivial,by trivial,by trivial,by trivial,by trivial,by trivial,by trivial,by trivial⟩
theorem Z4:Op "endtry" 0 0 (-1) true false false false:=⟨by trivial,by trivial,by trivial,by trivial,by trivial,by trivial,by trivial,by trivial⟩
theorem ZH:Op "raise" 1 0 0 false false false true:=⟨by trivial,by trivial,by trivial,by trivial,by trivial,by trivial,by trivial,by trivial⟩
theorem Z3:Op "return" 1 0 0 false false false false:=⟨by trivial,by trivial,by trivial,by trivial,by trivial,by trivial,by trivial,by trivial⟩
theorem z1K:Op "label" 0 0 0 true false false false:=⟨by trivial,by trivial,by trivial,by trivial,by trivial,by trivial,by trivial,by trivial⟩
theorem gs0 (r:Row) (d:Int) (gs:List Gd):zW r d gs 0=gs:=by unfold zW;rw [kz (by decide),kz (by decide)]
section
variable {Γ:Int→Option Sta} {d m l:Int} {gs:List Gd}
theorem z8K {op:Str} (h:op∈(["ortrue","orfalse"]:List Str)) (h0:0≤d) (ht:∀g,gs.getLast?=some g→g.2≤d) (hz:gs.length≤1000) (hΓ:Γ m=some (d+1,gs)):chk Γ [⟨op,.int m,l⟩] (some (d+1,gs))=some (some (d,gs)):=by
 obtain ⟨o,h1,h2⟩:=z83 op h
 rw [jU h1 (ju (by rw [o.asked];lia) (fun g e=>by rw [o.asked];have:=ht g e;lia) h2 hz) (o.tg (fun _=>hΓ) nofun),o.next,kC rfl,gs0]
 congr 3
 show d+1 - 1+0=d
 lia
theorem z5Q {op:Str} (h:op∈(["iftrue","iffalse"]:List Str)) (h0:0≤d) (ht:∀g,gs.getLast?=some g→g.2≤d) (hz:gs.length≤1000) (hΓ:Γ m=some (d,gs)):chk Γ [⟨op,.int m,l⟩] (some (d+1,gs))=some (some (d,gs)):=by
 obtain ⟨o,h1,h2⟩:=z85 op h
 have e:d+1 - 1+0=d:=by lia
 rw [jU h1 (ju (by rw [o.asked];lia) (fun g e=>by rw [o.asked];have:=ht g e;lia) h2 hz) (o.tg (fun _=>by rw [kz ka,e];exact hΓ) nofun),o.next,kC rfl,gs0]
 congr 3
theorem Qu (h0:0≤d) (ht:∀g,gs.getLast?=some g→g.2≤d) (hz:gs.length≤1000) (hΓ:Γ m=some (d,gs)):chk Γ [⟨"jump",.int m,l⟩] (some (d,gs))=some none:=by
 have e:d - 0+0=d:=by lia
 rw [jU (show ("jump":Str)≠"label" by trivial) (ju (by rw [JD.asked];lia) (fun g e=>by rw [JD.asked];have:=ht g e;lia) (show ("jump":Str)≠"endtry" by trivial) hz) (JD.tg (fun _=>by rw [kz ka,e];exact hΓ) nofun),JD.next]
 rfl
theorem z3Z (h0:0≤d) (ht:∀g,gs.getLast?=some g→g.2≤d) (hz:gs.length≤1000):chk Γ [⟨"try",.int m,l⟩] (some (d,gs))=some (some (d,gs++[(m,d)])):=by
 rw [jU (show ("try":Str)≠"label" by trivial) (ju (by rw [z1I.asked];lia) (fun g e=>by rw [z1I.asked];have:=ht g e;lia) (show ("try":Str)≠"endtry" by trivial) hz) (z1I.tg nofun nofun),z1I.next,kC rfl]
 unfold zW
 rw [kC rfl]
 congr 3
 show d - 0+0=d
 lia
theorem Jj {g:Gd} (h0:0≤d) (ht:g.2≤d) (hz:gs.length+1≤1000):chk Γ [⟨"endtry",.non,l⟩] (some (d,gs++[g]))=some (some (d,gs)):=by
 have hl:(gs++[g]).getLast?=some g:=by rw [List.getLast?_append];rfl
 have ho:jA ⟨"endtry",.non,l⟩ (d,gs++[g])=true:=by
  unfold jA Zp
  have e1:decide (d < zV ⟨"endtry",.non,l⟩)=false:=kh (by rw [Z4.asked];lia)
  have e2:qB ⟨"endtry",.non,l⟩ d (some g)=false:=by
   unfold qB
   dsimp only
   rw [Z4.asked]
   split
   ·rfl
   ·refine kh ?_
    split <;> split <;> lia
  show (!decide (d < zV ⟨"endtry",.non,l⟩)&& !(decide (("endtry":Str)="endtry")&&(gs++[g]).getLast?.isNone)&& !qB ⟨"endtry",.non,l⟩ d (gs++[g]).getLast?&&decide ((gs++[g]).length≤1000))=true
  rw [hl,e1,e2,ki (show (gs++[g]).length≤1000 by rw [kl];exact hz)]
  rfl
 rw [jU (show ("endtry":Str)≠"label" by trivial) ho ?_,Z4.next,kC rfl]
 ·unfold zW
  rw [kz (by decide),kC rfl,kJ]
  congr 3
  show d - 0+0=d
  lia
 ·intro t ht
  unfold tgts at ht
  rw [Z4.jump,Z4.fault] at ht
  cases ht
theorem z0I (h0:0≤d) (ht:∀g,gs.getLast?=some g→g.2≤d) (hz:gs.length≤1000) (hE:GEnv Γ gs):chk Γ [⟨"raise",.non,l⟩] (some (d+1,gs))=some none:=by
 rw [jU (show ("raise":Str)≠"label" by trivial) (ju (by rw [ZH.asked];lia) (fun g e=>by rw [ZH.asked];have:=ht g e;lia) (show ("raise":Str)≠"endtry" by trivial) hz) ?_,ZH.next]
 ·rfl
 ·intro t ht
  unfold tgts at ht
  rw [ZH.jump,ZH.fault,kz ka,kC rfl,List.nil_append] at ht
  cases e:gs.getLast? with
  | none=>rw [show ((d+1,gs):Sta).2.getLast?=none from e] at ht;cases ht
  | some g=>
   rw [show ((d+1,gs):Sta).2.getLast?=some g from e] at ht
   rw [ko.mp ht]
   exact hE g e
theorem z2B (h0:0≤d) (ht:∀g,gs.getLast?=some g→g.2≤d) (hz:gs.length≤1000):chk Γ [⟨"return",.non,l⟩] (some (d+1,gs))=some none:=by
 rw [jU (show ("return":Str)≠"label" by trivial) (ju (by rw [Z3.asked];lia) (fun g e=>by rw [Z3.asked];have:=ht g e;lia) (show ("return":Str)≠"endtry" by trivial) hz) ?_,Z3.next]
 ·rfl
 ·intro t ht
  unfold tgts at ht
  rw [Z3.jump,Z3.fault] at ht
  cases ht
theorem qR {c:Option Sta} (h0:0≤d) (ht:∀g,gs.getLast?=some g→g.2≤d) (hz:gs.length≤1000) (hΓ:Γ m=some (d,gs)) (hc:c=none∨c=some (d,gs)):chk Γ [⟨"label",.int m,l⟩] c=some (some (d,gs)):=by
 have ho:jA ⟨"label",.int m,l⟩ (d,gs)=true:=ju (by rw [z1K.asked];lia) (fun g e=>by rw [z1K.asked];have:=ht g e;lia) (show ("label":Str)≠"endtry" by trivial) hz
 rw [Zi,kC rfl,show Γ (argM (.int m))=some (d,gs) from hΓ]
 rcases hc with rfl | rfl
 ·dsimp only
  rw [kC ho]
  rfl
 ·dsimp only
  rw [kC ⟨rfl,ho⟩]
  rfl
theorem qm (hΓ:Γ m=none):chk Γ [⟨"label",.int m,l⟩] none=some none:=by
 rw [Zi,kC rfl,show Γ (argM (.int m))=none from hΓ]
 rfl
end
theorem Ty.sure {δ:Int} {k k':Nat} {l:List Row} (x:Ty δ true k k' l) {d:Int} {gs:List Gd} (hg:GOk d gs l.length):∃Γl:Int→Option Sta,∀Γ,Ext Γ Γl k k'→GEnv Γ gs→chk Γ l (some (d,gs))=some (some (d+δ,gs)):=by
 obtain ⟨Γl,c',h,q⟩:=x.go d gs hg
 rcases h with h | ⟨h,_⟩
 ·rw [h] at q;exact ⟨Γl,q⟩
 ·cases h
theorem Ty.orv {k k1 k2:Nat} {l1 l2:List Row} (x:Ty 1 true (k+1) k1 l1) (y:Ty 1 true k1 k2 l2) (h1:k+1≤k1) (h2:k1≤k2) {op:Str} (ho:op∈(["ortrue","orfalse"]:List Str)) (a b:Int):
  Ty 1 true k k2 (l1++[⟨op,.int (k:Int),a⟩]++l2++[⟨"label",.int (k:Int),b⟩]):=by
 refine ⟨fun d gs hg=>?_,fun Γ hΓ=>?_⟩
 ·have hl:=hg.len
  simp only [kl,kH] at hl
  obtain ⟨Γ1,q1⟩:=x.sure (d:=d) (gs:=gs) ⟨hg.pos,by lia,hg.top⟩
  obtain ⟨Γ2,q2⟩:=y.sure (d:=d) (gs:=gs) ⟨hg.pos,by lia,hg.top⟩
  refine ⟨fun m=>if m=(k:Int) then some (d+1,gs) else if m < (k1:Int) then Γ1 m else Γ2 m,some (d+1,gs),.inl rfl,fun Γ he hE=>?_⟩
  have ek:Γ (k:Int)=some (d+1,gs):=(he k (ke _) (by lia)).trans (kC rfl)
  have e1:Ext Γ Γ1 (k+1) k1:=fun m m1 m2=>(he m (by lia) (by lia)).trans ((kz (by lia)).trans (kC (by lia)))
  have e2:Ext Γ Γ2 k1 k2:=fun m m1 m2=>(he m (by lia) (by lia)).trans ((kz (by lia)).trans (kz (by lia)))
  have t1:∀g,gs.getLast?=some g→g.2≤d+1:=fun g e=>by have:=hg.top g e;lia
  rw [zr,zr,zr,q1 Γ e1 hE,kb,z8K ho hg.pos hg.top (by lia) ek,kb,q2 Γ e2 hE,kb]
  exact qR (by have:=hg.pos;lia) t1 (by lia) ek (.inr rfl)
 ·have ek:Γ (k:Int)=none:=hΓ k (ke _) (by lia)
  rw [zr,zr,zr,x.off Γ fun m m1 m2=>hΓ m (by lia) (by lia),kb,qf (z83 op ho).2.1,kb,y.off Γ fun m m1 m2=>hΓ m (by lia) m2,kb]
  exact qm ek
theorem Ty.triedv {k k':Nat} {l:List Row} (x:Ty 1 true (k+2) k' l) (h1:k+2≤k') (a b c e f:Int):
  Ty 1 true k k' ([⟨"try",.int (k:Int),a⟩]++l++[⟨"endtry",.non,b⟩]++[⟨"jump",.int ((k+1:Nat):Int),c⟩]++[⟨"label",.int (k:Int),e⟩]++[⟨"label",.int ((k+1:Nat):Int),f⟩]):=by
 refine ⟨fun d gs hg=>?_,fun Γ hΓ=>?_⟩
 ·have hl:=hg.len
  simp only [kl,kH] at hl
  have hlast:(gs++[((k:Int),d)]).getLast?=some ((k:Int),d):=by rw [List.getLast?_append];rfl
  obtain ⟨Γ1,q1⟩:=x.sure (d:=d) (gs:=gs++[((k:Int),d)]) ⟨hg.pos,by rw [kl,kH];lia,fun g z=>by rw [hlast] at z;cases z;exact Int.le_refl _⟩
  refine ⟨fun m=>if m=(k:Int) then some (d+1,gs) else if m=((k+1:Nat):Int) then some (d+1,gs) else Γ1 m,some (d+1,gs),.inl rfl,fun Γ he hE=>?_⟩
  have ek:Γ (k:Int)=some (d+1,gs):=(he k (ke _) (by lia)).trans (kC rfl)
  have ek1:Γ ((k+1:Nat):Int)=some (d+1,gs):=(he (k+1) (by lia) (by lia)).trans ((kz (by lia)).trans (kC rfl))
  have e1:Ext Γ Γ1 (k+2) k':=fun m m1 m2=>(he m (by lia) m2).trans ((kz (by lia)).trans (kz (by lia)))
  have hE1:GEnv Γ (gs++[((k:Int),d)]):=fun g z=>by
   rw [hlast] at z
   cases z
   rw [kJ]
   exact ek
  have t1:∀g,gs.getLast?=some g→g.2≤d+1:=fun g z=>by have:=hg.top g z;lia
  have p1:0≤d+1:=by have:=hg.pos;lia
  rw [zr,zr,zr,zr,zr,z3Z hg.pos hg.top (by lia),kb,q1 Γ e1 hE1,kb,Jj p1 (by show d≤d+1;lia) (by lia),kb,Qu p1 t1 (by lia) ek1,kb,qR p1 t1 (by lia) ek (.inl rfl),kb]
  exact qR p1 t1 (by lia) ek1 (.inr rfl)
 ·have ek:Γ (k:Int)=none:=hΓ k (ke _) (by lia)
  have ek1:Γ ((k+1:Nat):Int)=none:=hΓ (k+1) (by lia) (by lia)
  rw [zr,zr,zr,zr,zr,qf (show ("try":Str)≠"label" by trivial),kb,x.off Γ fun m m1 m2=>hΓ m (by lia) m2,kb,qf (show ("endtry":Str)≠"label" by trivial),kb,qf (show ("jump":Str)≠"label" by trivial),kb,qm ek,kb]
  exact qm ek1
theorem Ty.round {k k1 k2:Nat} {l1 l2:List Row} {su:Bool} (x:Ty 1 true (k+2) k1 l1) (y:Ty 0 su k1 k2 l2) (h1:k+2≤k1) (h2:k1≤k2) (a b c e:Int):
  Ty 0 true k k2 ([⟨"label",.int (k:Int),a⟩]++l1++[⟨"iffalse",.int ((k+1:Nat):Int),b⟩]++l2++[⟨"jump",.int (k:Int),c⟩]++[⟨"label",.int ((k+1:Nat):Int),e⟩]):=by
 refine ⟨fun d gs hg=>?_,fun Γ hΓ=>?_⟩
 ·have hl:=hg.len
  simp only [kl,kH] at hl
  obtain ⟨Γ1,q1⟩:=x.sure (d:=d) (gs:=gs) ⟨hg.pos,by lia,hg.top⟩
  obtain ⟨Γ2,c2,hc2,q2⟩:=y.go d gs ⟨hg.pos,by lia,hg.top⟩
  refine ⟨fun m=>if m=(k:Int) then some (d,gs) else if m=((k+1:Nat):Int) then some (d,gs) else if m < (k1:Int) then Γ1 m else Γ2 m,some (d+0,gs),.inl rfl,fun Γ he hE=>?_⟩
  have ek:Γ (k:Int)=some (d,gs):=(he k (ke _) (by lia)).trans (kC rfl)
  have ek1:Γ ((k+1:Nat):Int)=some (d,gs):=(he (k+1) (by lia) (by lia)).trans ((kz (by lia)).trans (kC rfl))
  have e1:Ext Γ Γ1 (k+2) k1:=fun m m1 m2=>(he m (by lia) (by lia)).trans ((kz (by lia)).trans ((kz (by lia)).trans (kC (by lia))))
  have e2:Ext Γ Γ2 k1 k2:=fun m m1 m2=>(he m (by lia) m2).trans ((kz (by lia)).trans ((kz (by lia)).trans (kz (by lia))))
  rw [zr,zr,zr,zr,zr,qR hg.pos hg.top (by lia) ek (.inr rfl),kb,q1 Γ e1 hE,kb,z5Q (by trivial) hg.pos hg.top (by lia) ek1,kb,q2 Γ e2 hE,kb,Int.add_zero]
  rcases hc2 with rfl | ⟨_,rfl⟩
  ·rw [Int.add_zero,Qu hg.pos hg.top (by lia) ek,kb]
   exact qR hg.pos hg.top (by lia) ek1 (.inl rfl)
  ·rw [qf (show ("jump":Str)≠"label" by trivial),kb]
   exact qR hg.pos hg.top (by lia) ek1 (.inl rfl)
 ·have ek:Γ (k:Int)=none:=hΓ k (ke _) (by lia)
  have ek1:Γ ((k+1:Nat):Int)=none:=hΓ (k+1) (by lia) (by lia)
  rw [zr,zr,zr,zr,zr,qm ek,kb,x.off Γ fun m m1 m2=>hΓ m (by lia) (by lia),kb,qf (show ("iffalse":Str)≠"label" by trivial),kb,y.off Γ fun m m1 m2=>hΓ m (by lia) m2,kb,qf (show ("jump":Str)≠"label" by trivial),kb]
  exact qm ek1
theorem Ty.choice {k k1 k2 k3:Nat} {l1 l2 l3:List Row} {s2 s3:Bool} (x:Ty 1 true (k+2) k1 l1) (y:Ty 0 s2 k1 k2 l2) (z:Ty 0 s3 k2 k3 l3) (h1:k+2≤k1) (h2:k1≤k2) (h3:k2≤k3) {op:Str} (ho:op∈(["iftrue","iffalse"]:List Str)) (a b c e:Int):
  Ty 0 true k k3 (l1++[⟨op,.int (k:Int),a⟩]++l2++[⟨"jump",.int ((k+1:Nat):Int),b⟩]++[⟨"label",.int (k:Int),c⟩]++l3++[⟨"label",.int ((k+1:Nat):Int),e⟩]):=by
 refine ⟨fun d gs hg=>?_,fun Γ hΓ=>?_⟩
 ·have hl:=hg.len
  simp only [kl,kH] at hl
  obtain ⟨Γ1,q1⟩:=x.sure (d:=d) (gs:=gs) ⟨hg.pos,by lia,hg.top⟩
  obtain ⟨Γ2,c2,hc2,q2⟩:=y.go d gs ⟨hg.pos,by lia,hg.top⟩
  obtain ⟨Γ3,c3,hc3,q3⟩:=z.go d gs ⟨hg.pos,by lia,hg.top⟩
  refine ⟨fun m=>if m=(k:Int) then some (d,gs) else if m=((k+1:Nat):Int) then some (d,gs) else if m < (k1:Int) then Γ1 m else if m < (k2:Int) then Γ2 m else Γ3 m,some (d+0,gs),.inl rfl,fun Γ he hE=>?_⟩
  have ek:Γ (k:Int)=some (d,gs):=(he k (ke _) (by lia)).trans (kC rfl)
  have ek1:Γ ((k+1:Nat):Int)=some (d,gs):=(he (k+1) (by lia) (by lia)).trans ((kz (by lia)).trans (kC rfl))
  have e1:Ext Γ Γ1 (k+2) k1:=fun m m1 m2=>(he m (by lia) (by lia)).trans ((kz (by lia)).trans ((kz (by lia)).trans (kC (by lia))))
  have e2:Ext Γ Γ2 k1 k2:=fun m m1 m2=>(he m (by lia) (by lia)).trans ((kz (by lia)).trans ((kz (by lia)).trans ((kz (by lia)).trans (kC (by lia)))))
  have e3:Ext Γ Γ3 k2 k3:=fun m m1 m2=>(he m (by lia) (by lia)).trans ((kz (by lia)).trans ((kz (by lia)).trans ((kz (by lia)).trans (kz (by lia)))))
  have j:chk Γ [⟨"jump",.int ((k+1:Nat):Int),b⟩] c2=some none:=by
   rcases hc2 with rfl | ⟨_,rfl⟩
   ·rw [Int.add_zero]
    exact Qu hg.pos hg.top (by lia) ek1
   ·exact qf (show ("jump":Str)≠"label" by trivial)
  rw [zr,zr,zr,zr,zr,zr,q1 Γ e1 hE,kb,z5Q ho hg.pos hg.top (by lia) ek,kb,q2 Γ e2 hE,kb,j,kb,qR hg.pos hg.top (by lia) ek (.inl rfl),kb,q3 Γ e3 hE,kb,Int.add_zero]
  refine qR hg.pos hg.top (by lia) ek1 ?_
  rcases hc3 with rfl | ⟨_,rfl⟩
  ·exact .inr (by rw [Int.add_zero])
  ·exact .inl rfl
 ·have ek:Γ (k:Int)=none:=hΓ k (ke _) (by lia)
  have ek1:Γ ((k+1:Nat):Int)=none:=hΓ (k+1) (by lia) (by lia)
  rw [zr,zr,zr,zr,zr,zr,x.off Γ fun m m1 m2=>hΓ m (by lia) (by lia),kb,qf (z85 op ho).2.1,kb,y.off Γ fun m m1 m2=>hΓ m (by lia) (by lia),kb,qf (show ("jump":Str)≠"label" by trivial),kb,qm ek,kb,z.off Γ fun m m1 m2=>hΓ m (by lia) m2,kb]
  exact qm ek1
theorem Ty.rais {k k':Nat} {l:List Row} (x:Ty 1 true k k' l) (a:Int):Ty 0 false k k' (l++[⟨"raise",.non,a⟩]):=by
 refine ⟨fun d gs hg=>?_,fun Γ hΓ=>?_⟩
 ·have hl:=hg.len
  simp only [kl,kH] at hl
  obtain ⟨Γ1,q1⟩:=x.sure (d:=d) (gs:=gs) ⟨hg.pos,by lia,hg.top⟩
  refine ⟨Γ1,none,.inr ⟨rfl,rfl⟩,fun Γ he hE=>?_⟩
  rw [zr,q1 Γ he hE,kb]
  exact z0I hg.pos hg.top (by lia) hE
 ·rw [zr,x.off Γ hΓ,kb]
  exact qf (show ("raise":Str)≠"label" by trivial)
theorem Ty.weak {δ:Int} {su:Bool} {k k':Nat} {l:List Row} (x:Ty δ su k k' l):Ty δ false k k' l:=by
 refine ⟨fun d gs hg=>?_,x.off⟩
 obtain ⟨Γl,c',h,q⟩:=x.go d gs hg
 refine ⟨Γl,c',?_,q⟩
 rcases h with h | ⟨_,h⟩
 ·exact .inl h
 ·exact .inr ⟨rfl,h⟩
theorem z4I {Γ:Int→Option Sta} {op:Str} (h:op∈(["drop","tell","raise"]:List Str)) (ln:Int) {d:Int} {gs:List Gd} (h0:0≤d) (ht:∀g,gs.getLast?=some g→g.2≤d) (hz:gs.length≤1000) (hE:GEnv Γ gs):chk Γ [⟨op,.non,ln⟩] (some (d+1,gs))=some (if op="raise" then none else some (d,gs)):=by
 simp only [kF,kq,or_false] at h
 have e:d+1 - 1+0=d:=by lia
 rcases h with rfl | rfl | rfl
 ·rw [(Zo "drop" (by trivial)).chk .non ln (by lia) (fun g z=>by have:=ht g z;lia) hz hE,e,kz (by trivial)]
 ·rw [(Zo "tell" (by trivial)).chk .non ln (by lia) (fun g z=>by have:=ht g z;lia) hz hE,e,kz (by trivial)]
 ·rw [z0I h0 ht hz hE,kC rfl]
theorem Ty.tried {k k1 k2:Nat} {l1 l2:List Row} {s1 s2:Bool} (x:Ty 0 s1 (k+2) k1 l1) (y:Ty 0 s2 k1 k2 l2) (h1:k+2≤k1) (h2:k1≤k2) {op:Str} (ho:op∈(["drop","tell","raise"]:List Str)) (a b c e f g':Int):
  Ty 0 true k k2 ([⟨"try",.int (k:Int),a⟩]++l1++[⟨"endtry",.non,b⟩]++[⟨"jump",.int ((k+1:Nat):Int),c⟩]++[⟨"label",.int (k:Int),e⟩]++[⟨op,.non,f⟩]++l2++[⟨"label",.int ((k+1:Nat):Int),g'⟩]):=by
 have hopl:op≠"label":=by
  simp only [kF,kq,or_false] at ho
  rcases ho with rfl | rfl | rfl <;> decide+kernel
 refine ⟨fun d gs hg=>?_,fun Γ hΓ=>?_⟩
 ·have hl:=hg.len
  simp only [kl,kH] at hl
  have hlast:(gs++[((k:Int),d)]).getLast?=some ((k:Int),d):=by rw [List.getLast?_append];rfl
  obtain ⟨Γ1,c1,hc1,q1⟩:=x.go d (gs++[((k:Int),d)]) ⟨hg.pos,by rw [kl,kH];lia,fun g z=>by rw [hlast] at z;cases z;exact Int.le_refl _⟩
  obtain ⟨Γ2,c2,hc2,q2⟩:=y.go d gs ⟨hg.pos,by lia,hg.top⟩
  refine ⟨fun m=>if m=(k:Int) then some (d+1,gs) else if m=((k+1:Nat):Int) then some (d,gs) else if m < (k1:Int) then Γ1 m else if op="raise" then none else Γ2 m,some (d+0,gs),.inl rfl,fun Γ he hE=>?_⟩
  have ek:Γ (k:Int)=some (d+1,gs):=(he k (ke _) (by lia)).trans (kC rfl)
  have ek1:Γ ((k+1:Nat):Int)=some (d,gs):=(he (k+1) (by lia) (by lia)).trans ((kz (by lia)).trans (kC rfl))
  have e1:Ext Γ Γ1 (k+2) k1:=fun m m1 m2=>(he m (by lia) (by lia)).trans ((kz (by lia)).trans ((kz (by lia)).trans (kC (by lia))))
  have e2:∀m:Nat,k1≤m→m < k2→Γ (m:Int)=if op="raise" then none else Γ2 (m:Int):=fun m m1 m2=>(he m (by lia) (by lia)).trans ((kz (by lia)).trans ((kz (by lia)).trans (kz (by lia))))
  have hE1:GEnv Γ (gs++[((k:Int),d)]):=fun g z=>by
   rw [hlast] at z
   cases z
   rw [kJ]
   exact ek
  have t1:∀g,gs.getLast?=some g→g.2≤d+1:=fun g z=>by have:=hg.top g z;lia
  have p1:0≤d+1:=by have:=hg.pos;lia
  have j:(chk Γ [⟨"endtry",.non,b⟩] c1).bind (fun c'=>chk Γ [⟨"jump",.int ((k+1:Nat):Int),c⟩] c')=some none:=by
   rcases hc1 with rfl | ⟨_,rfl⟩
   ·rw [Int.add_zero,Jj hg.pos (Int.le_refl d) (by lia),kb]
    exact Qu hg.pos hg.top (by lia) ek1
   ·rw [qf (show ("endtry":Str)≠"label" by trivial),kb]
    exact qf (show ("jump":Str)≠"label" by trivial)
  have z:(chk Γ [⟨op,.non,f⟩] (some (d+1,gs))).bind (fun c'=>chk Γ l2 c')=some (if op="raise" then none else c2):=by
   rw [z4I ho f hg.pos hg.top (by lia) hE,kb]
   by_cases hr:op="raise"
   ·rw [kC hr,kC hr]
    exact y.off Γ fun m m1 m2=>(e2 m m1 m2).trans (kC hr)
   ·rw [kz hr,kz hr]
    exact q2 Γ (fun m m1 m2=>(e2 m m1 m2).trans (kz hr)) hE
  have z2:(if op="raise" then none else c2)=none∨(if op="raise" then none else c2)=some (d,gs):=by
   by_cases hr:op="raise"
   ·rw [kC hr];exact .inl rfl
   ·rw [kz hr]
    rcases hc2 with rfl | ⟨_,rfl⟩
    ·exact .inr (by rw [Int.add_zero])
    ·exact .inl rfl
  rw [zr,zr,zr,zr,zr,zr,zr,z3Z hg.pos hg.top (by lia),kb,q1 Γ e1 hE1,kb,j,kb,qR p1 t1 (by lia) ek (.inl rfl),kb,z,kb,Int.add_zero]
  exact qR hg.pos hg.top (by lia) ek1 z2
 ·have ek:Γ (k:Int)=none:=hΓ k (ke _) (by lia)
  have ek1:Γ ((k+1:Nat):Int)=none:=hΓ (k+1) (by lia) (by lia)
  rw [zr,zr,zr,zr,zr,zr,zr,qf (show ("try":Str)≠"label" by trivial),kb,x.off Γ fun m m1 m2=>hΓ m (by lia) (by lia),kb,qf (show ("endtry":Str)≠"label" by trivial),kb,qf (show ("jump":Str)≠"label" by trivial),kb,qm ek,kb,qf hopl,kb,y.off Γ fun m m1 m2=>hΓ m (by lia) m2,kb]
  exact qm ek1
structure Deep (op:Str) (b:Int):Prop where
 lab:op≠"label"
 et:op≠"endtry"
 deep:inT op qD=true
 takes:tabI zH op=0
 pushes:tabI zO op=b
 on:inT op qp=false
 jump:inT op jumping=false
 gput:tabI zU op=0
 fault:inT op faulting=false
theorem z78:Deep "swap" 0:=⟨by trivial,by trivial,by trivial,by trivial,by trivial,by trivial,by trivial,by trivial,by trivial⟩
theorem z79:Deep "copy" 1:=⟨by trivial,by trivial,by trivial,by trivial,by trivial,by trivial,by trivial,by trivial,by trivial⟩
theorem Ty.deep {δ:Int} {k k':Nat} {l:List Row} (x:Ty δ true k k' l) {op:Str} {b:Int} (h:Deep op b) {n:Int} (hn:n≤δ) (ln:Int):Ty (δ+b) true k k' (l++[⟨op,.int n,ln⟩]):=by
 have ha:zV ⟨op,.int n,ln⟩=n:=by
  unfold zV
  rw [h.deep,kC rfl]
 refine ⟨fun d gs hg=>?_,fun Γ hΓ=>?_⟩
 ·have hl:=hg.len
  simp only [kl,kH] at hl
  obtain ⟨Γ1,q1⟩:=x.sure (d:=d) (gs:=gs) ⟨hg.pos,by lia,hg.top⟩
  refine ⟨Γ1,some (d+(δ+b),gs),.inl rfl,fun Γ he hE=>?_⟩
  rw [zr,q1 Γ he hE,kb,jU h.lab (ju (by rw [ha];have:=hg.pos;lia) (fun g e=>by rw [ha];have:=hg.top g e;lia) h.et (by lia)) ?_]
  ·unfold Qk zG
   rw [h.on,kz ka,h.takes,h.pushes,h.gput,gs0]
   congr 3
   show d+δ - 0+b=d+(δ+b)
   lia
  ·intro t ht
   unfold tgts at ht
   rw [h.jump,h.fault] at ht
   cases ht
 ·rw [zr,x.off Γ hΓ,kb]
  exact qf h.lab
theorem Ty.whole {k k1 k2:Nat} {l1 l2:List Row} {su:Bool} (x:Ty 0 su k k1 l1) (y:Ty 1 true k1 k2 l2) (h1:k≤k1) (h2:k1≤k2) (a:Int) (hz:l1.length+l2.length≤998):
  ∃Γl:Int→Option Sta,∀Γ,Ext Γ Γl k k2→chk Γ (l1++l2++[⟨"return",.non,a⟩]) (some (0,[]))=some none:=by
 have xy:=x.app y h1 h2 (Int.le_refl 0)
 obtain ⟨Γl,c',hc,q⟩:=xy.go 0 [] ⟨Int.le_refl _,by simp only [kl,List.length_nil];lia,nofun⟩
 refine ⟨Γl,fun Γ he=>?_⟩
 rw [zr,q Γ he nofun,kb]
 rcases hc with rfl | ⟨_,rfl⟩
 ·rw [show (0:Int)+(0+1)=0+1 by decide]
  exact z2B (Int.le_refl 0) nofun (by decide)
 ·exact qf (show ("return":Str)≠"label" by trivial)
noncomputable def j3:List Str:=["Oops","Zero","Unset","Type","Big"]
noncomputable def okV:V→Bool
 | .non=>true
 | .bl _=>true
 | .int i=> !big i
 | .str z=>decide (z∈j3)
 | _=>false
def okVs (l:List V):Prop:=∀v∈l,okV v=true
theorem Zh:∀z∈j3,jx (.str z)=true∧JI (.str z)=true:=by trivial
theorem jF {v:V} (h:okV v=true):jx v=true:=by
 cases v with
 | non=>rfl
 | bl b=>rfl
 | int i=>rfl
 | str z=>exact (Zh z (kE h)).1
 | _=>cases h
theorem okVs.nil:okVs []:=fun _ h=>by cases h
theorem okVs.app {a b:List V} (x:okVs a) (y:okVs b):okVs (a++b):=fun v h=>(kW.mp h).elim (x v) (y v)
theorem okVs.one {v:V} (h:okV v=true):okVs [v]:=fun w hw=>by rw [ko.mp hw];exact h
theorem okVs.left {a b:List V} (x:okVs (a++b)):okVs a:=fun v h=>x v (kP _ h)
theorem okVs.last {a:List V} {v:V} (x:okVs (a++[v])):okV v=true:=x v (kO _ (ko.mpr rfl))
structure OkM (m:Mst) (n:Nat):Prop where
 st:okVs m.st
 kn:∀q∈m.kn,okV q.2=true
 sd:okVs m.sd
 lst:m.st.length≤n
 lkn:m.kn.length≤8+n
 lsd:m.sd.length≤n
theorem OkM.more {m:Mst} {n k:Nat} (h:OkM m n) (hk:n≤k):OkM m k:=⟨h.st,h.kn,h.sd,ku h.lst hk,by have:=h.lkn;lia,ku h.lsd hk⟩
theorem OkM.stk {m:Mst} {n k:Nat} (h:OkM m n) (hk:n≤k) {st:List V} (hs:okVs st) (hl:st.length≤k):OkM { m with st:=st } k:=⟨hs,h.kn,h.sd,hl,by have:=h.lkn;show m.kn.length≤_;lia,ku h.lsd hk⟩
def z8R (r:Row) (d:Int) (m':Mst):Res→Prop
 | .next=>inT r.op qp=false∧(m'.st.length:Int)=zG r d∧tabI zU r.op=0
 | .go=>inT r.op jumping=true∧(m'.st.length:Int)=(if inT r.op leaving=true then d else zG r d)
 | .fault k=>inT r.op faulting=true∧k∈j3∧d - zV r≤(m'.st.length:Int)∧(m'.st.length:Int)≤d
 | .value v=>r.op="return"∧okV v=true
def Does (r:Row) (m:Mst) (n:Nat):Prop:=∃res m',rowM r.op r.arg m=some (res,m')∧OkM m' (n+1)∧m.sd <+: m'.sd∧z8R r (m.st.length:Int) m' res
theorem jZ {l:List V} (h:1≤l.length):∃ys x,l=ys++[x]:=by
 rcases List.eq_nil_or_concat l with e | ⟨ys,x,e⟩
 ·rw [e] at h;cases h
 ·exact ⟨ys,x,by rw [e,List.concat_eq_append]⟩
theorem z7C {l:List V} (h:2≤l.length):∃ys x y,l=ys++[x]++[y]:=by
 obtain ⟨zs,y,e⟩:=jZ (l:=l) (by lia)
 rw [e,kl,kH] at h
 obtain ⟨ys,x,e'⟩:=jZ (l:=zs) (by lia)
 exact ⟨ys,x,y,by rw [e,e']⟩
theorem qE (l:List V):l <+: l:=List.prefix_refl l
theorem js {a n:Nat} (h:a≤n) (hn:n≤1000):qC a=true:=ki (by lia)
theorem z4D {op:Str} (ho:op∈jo) {x y:V} (hx:okV x=true) (hy:okV y=true):∃r1 r2,jm op x y=some (r1,r2)∧((r1=.non∧okV r2=true)∨∃k,k∈j3∧r1=.str k∧inT op faulting=true):=by
 by_cases hs:op="same"
 ·exact ⟨.non,.bl (z29 x y),by unfold jm;rw [kC hs],.inl ⟨rfl,rfl⟩⟩
 have hf:inT op faulting=true:=by
  unfold jo at ho
  simp only [kF,kq,or_false] at ho
  rcases ho with h | h | h | h | h | h | h
  all_goals first
   | exact absurd h hs
   | (rw [h];decide+kernel)
 have ty:("Type":Str)∈j3:=by trivial
 have no:(∀i j,¬(x=.int i∧y=.int j))→∃r1 r2,jm op x y=some (r1,r2)∧((r1=.non∧okV r2=true)∨∃k,k∈j3∧r1=.str k∧inT op faulting=true):=fun hn=>by
  refine ⟨.str "Type",.non,?_,.inr ⟨_,ty,rfl,hf⟩⟩
  unfold jm
  rw [kz hs]
  split
  ·rename_i i j
   exact absurd ⟨rfl,rfl⟩ (hn i j)
  ·rfl
 cases x with
 | int i=>
  cases y with
  | int j=>
   have bi:big i=false:=by simpa [okV] using hx
   have bj:big j=false:=by simpa [okV] using hy
   unfold jm
   rw [kz hs]
   dsimp only
   rw [bi,bj,kz ka,kz ka]
   by_cases hz:(op="div"∨op="rest")∧j=0
   ·rw [kC hz]
    exact ⟨_,_,rfl,.inr ⟨_,by trivial,rfl,hf⟩⟩
   rw [kz hz]
   by_cases hl:op="less"
   ·rw [kC hl]
    exact ⟨_,_,rfl,.inl ⟨rfl,rfl⟩⟩
   rw [kz hl]
   obtain ⟨k,hk⟩:∃k,reck op i j=some k:=by
    unfold jo at ho
    simp only [kF,kq,or_false] at ho
    unfold reck
    rcases ho with h | h | h | h | h | h | h
    ·exact ⟨_,by rw [kC h]⟩
    ·subst h;exact ⟨_,by rw [kz (by trivial),kC rfl]⟩
    ·subst h;exact ⟨_,by rw [kz (by trivial),kz (by trivial),kC rfl]⟩
    ·subst h
     have:¬j=0:=fun z=>hz ⟨.inl rfl,z⟩
     exact ⟨_,by rw [kz (by trivial),kz (by trivial),kz (by trivial),kC rfl,kz this]⟩
    ·subst h
     have:¬j=0:=fun z=>hz ⟨.inr rfl,z⟩
     exact ⟨_,by rw [kz (by trivial),kz (by trivial),kz (by trivial),kz (by trivial),kC rfl,kz this]⟩
    ·exact absurd h hl
    ·exact absurd h hs
   rw [hk]
   dsimp only
   by_cases hb:big k=true
   ·rw [kC hb]
    exact ⟨_,_,rfl,.inr ⟨_,by trivial,rfl,hf⟩⟩
   ·rw [kz hb]
    exact ⟨_,_,rfl,.inl ⟨rfl,by unfold okV;simpa using hb⟩⟩
  | _=>exact no fun i j h=>by cases h.2
 | _=>exact no fun i j h=>by cases h.1
theorem z4E {op:Str} (ho:op∈jK) {x:V} (hx:okV x=true):∃r1 r2,QJ op x=some (r1,r2)∧((r1=.non∧okV r2=true)∨∃k,k∈j3∧r1=.str k∧inT op faulting=true):=by
 unfold QJ
 by_cases hn:op="not"
 ·rw [kC hn]
  exact ⟨_,_,rfl,.inl ⟨rfl,rfl⟩⟩
 rw [kz hn]
 have e:op="neg":=by
  unfold jK at ho
  simp only [kF,kq,or_false] at ho
  rcases ho with h | h
  ·exact h
  ·exact absurd h hn
 have hf:inT op faulting=true:=by rw [e];decide+kernel
 have ty:("Type":Str)∈j3:=by trivial
 cases x with
 | int i=>
  refine ⟨_,_,rfl,.inl ⟨rfl,?_⟩⟩
  have bi:big i=false:=by simpa [okV] using hx
  show (!big (-i))=true
  unfold big at bi ⊢
  rw [Int.natAbs_neg,bi]
  rfl
 | _=>exact ⟨_,_,rfl,.inr ⟨_,ty,rfl,hf⟩⟩
end My
local macro_rules | `(tactic| trivial)=>`(tactic| (dsimp only;decide+kernel))
local macro_rules | `(tactic| trivial)=>`(tactic| decide+kernel)
namespace My
open PySem PySem.Spec PyProof.Rows L2
variable {P:Program} {w:World} {K:ky} {mg:Str→Option Value} {base:Heap}
section
variable {m:Mst} {n:Nat} {arg:V} {ln:Int}
theorem len1 (ys:List V) (x:V):(ys++[x]).length=ys.length+1:=by rw [kl,kH]
theorem JT {op:Str} (hok:jV ⟨op,arg,ln⟩) {s:Str} (hs:qa op=some s):jj s arg=true:=by
 have h:rowV op arg (.int ln)=true:=hok
 unfold rowV Zu at h
 rw [hs] at h
 simp only [yf] at h
 exact h.1.2
theorem ZI {x:V} (h:jj "name" x=true):∃nm,x=.str nm:=by
 have h:JF x=true:=by
  unfold jj at h
  rw [kz (by trivial),kC rfl] at h
  exact h
 cases x with
 | str z=>exact ⟨z,rfl⟩
 | _=>cases h
theorem z2D {kvs:List (Key × V)} {k:Key} {v:V} (h:valV kvs k=some v):∃q∈kvs,q.2=v:=by
 unfold valV at h
 cases e:kvs.find? fun kv=>decide (kv.1=k) with
 | none=>rw [e] at h;cases h
 | some q=>
  rw [e] at h
  cases h
  exact ⟨q,List.mem_of_find?_eq_some e,rfl⟩
theorem ZT {r:Row} (hm:OkM m n) (hn:n≤900) {v:V} (hv:okV v=true) (e:rowM r.op r.arg m=some (.next,{ m with st:=m.st++[v] })) (h1:inT r.op qp=false) (h2:tabI zH r.op=0) (h3:tabI zO r.op=1) (h4:tabI zU r.op=0):Does r m n:=by
 refine ⟨_,_,e,hm.stk (by lia) (hm.st.app (okVs.one hv)) (by rw [len1];have:=hm.lst;lia),qE _,h1,?_,h4⟩
 show (((m.st++[v]).length:Nat):Int)=_
 unfold zG
 rw [h2,h3,len1]
 lia
theorem z8B (hm:OkM m n) (hn:n≤900) (hv:okV arg=true):Does ⟨"push",arg,ln⟩ m n:=
 ZT hm hn hv (show rowM "push" arg m=_ by (unfold rowM;repeat (first | rw [kC (by trivial)] | rw [kz (by trivial)]));unfold z0z;rw [kC (js hm.lst (by lia))]) (by trivial) (by trivial) (by trivial) (by trivial)
theorem Jf {r:Row} (hm:OkM m n) (e:rowM r.op r.arg m=some (.fault "Unset",m)) (h1:inT r.op faulting=true) (h2:zV r=0):Does r m n:=by
 refine ⟨_,_,e,hm.more (by lia),qE _,h1,by trivial,?_,Int.le_refl _⟩
 rw [h2]
 lia
theorem z8D (hm:OkM m n) (hn:n≤900) (hok:jV ⟨"load",arg,ln⟩):Does ⟨"load",arg,ln⟩ m n:=by
 obtain ⟨nm,rfl⟩:=ZI (JT hok (s:="name") (by trivial))
 have e0:rowM "load" (.str nm) m=J1 "load" (.str nm) m:=by (unfold rowM;repeat (first | rw [kC (by trivial)] | rw [kz (by trivial)]))
 cases e:valV m.kn (Sum.inr nm:Key) with
 | none=>exact Jf hm (by show rowM "load" (.str nm) m=_;rw [e0];unfold J1;dsimp only;rw [e]) (by trivial) (by unfold zV;rw [kz (by trivial)];trivial)
 | some v=>
  obtain ⟨q,hq,rfl⟩:=z2D e
  exact ZT hm hn (hm.kn q hq) (by show rowM "load" (.str nm) m=_;rw [e0];unfold J1;dsimp only;rw [e];dsimp only;rw [kC (js hm.lst (by lia))]) (by trivial) (by trivial) (by trivial) (by trivial)
theorem z7c (hm:OkM m n) (hn:n≤900) (hok:jV ⟨"quick",arg,ln⟩):Does ⟨"quick",arg,ln⟩ m n:=by
 obtain ⟨nm,rfl⟩:=ZI (JT hok (s:="name") (by trivial))
 have e0:rowM "quick" (.str nm) m=ZQ "quick" (.str nm) m:=by (unfold rowM;repeat (first | rw [kC (by trivial)] | rw [kz (by trivial)]))
 refine ZT hm hn (v:=(valV m.kn (Sum.inr nm:Key)).getD .non) ?_ (by show rowM "quick" (.str nm) m=_;rw [e0];unfold ZQ;dsimp only;rw [kC (js hm.lst (by lia))]) (by trivial) (by trivial) (by trivial) (by trivial)
 cases e:valV m.kn (Sum.inr nm:Key) with
 | none=>rfl
 | some v=>
  obtain ⟨q,hq,rfl⟩:=z2D e
  exact hm.kn q hq
theorem z33 {kvs:List (Key × V)} {k:Key} {v:V} (h:∀q∈kvs,okV q.2=true) (hv:okV v=true):(∀q∈putK kvs k v,okV q.2=true)∧(putK kvs k v).length≤kvs.length+1:=by
 unfold putK
 split
 ·refine ⟨fun q hq=>?_,by rw [kj];lia⟩
  obtain ⟨p,hp,rfl⟩:=yh.mp hq
  split
  ·exact hv
  ·exact h p hp
 ·refine ⟨fun q hq=>?_,by rw [kl,kH];lia⟩
  rcases kW.mp hq with z | z
  ·exact h q z
  ·rw [ko.mp z];exact hv
theorem z7a (hm:OkM m n) (hn:n≤900) (hok:jV ⟨"store",arg,ln⟩) (ha:1≤m.st.length):Does ⟨"store",arg,ln⟩ m n:=by
 obtain ⟨nm,rfl⟩:=ZI (JT hok (s:="name") (by trivial))
 have e0:rowM "store" (.str nm) m=ZO "store" (.str nm) m:=by (unfold rowM;repeat (first | rw [kC (by trivial)] | rw [kz (by trivial)]))
 obtain ⟨ys,x,e⟩:=jZ ha
 have hst:=hm.st
 have hl:=hm.lst
 rw [e] at hst hl
 rw [len1] at hl
 obtain ⟨p1,p2⟩:=z33 (k:=(Sum.inr nm:Key)) hm.kn hst.last
 refine ⟨.next,{ m with st:=ys,kn:=putK m.kn (Sum.inr nm) x },?_,⟨hst.left,p1,hm.sd,(by show ys.length≤n+1;lia),(by have:=hm.lkn;show (putK m.kn (Sum.inr nm) x).length≤_;lia),(by have:=hm.lsd;show m.sd.length≤_;lia)⟩,qE _,by trivial,?_,by trivial⟩
 ·show rowM "store" (.str nm) m=_
  rw [e0]
  unfold ZO
  dsimp only
  rw [e,kK,kJ]
  dsimp only
  rw [kC (js hm.lkn (by lia))]
 ·show ((ys.length:Nat):Int)=_
  unfold zG
  rw [e,len1,show tabI zH "store"=1 by trivial,show tabI zO "store"=0 by trivial]
  lia
theorem z7e (hm:OkM m n) (hok:jV ⟨"clear",arg,ln⟩):Does ⟨"clear",arg,ln⟩ m n:=by
 obtain ⟨nm,rfl⟩:=ZI (JT hok (s:="name") (by trivial))
 have e0:rowM "clear" (.str nm) m=Zl "clear" (.str nm) m:=by (unfold rowM;repeat (first | rw [kC (by trivial)] | rw [kz (by trivial)]))
 cases e:valV m.kn (Sum.inr nm:Key) with
 | none=>exact Jf hm (by show rowM "clear" (.str nm) m=_;rw [e0];unfold Zl;dsimp only;rw [e]) (by trivial) (by unfold zV;rw [kz (by trivial)];trivial)
 | some v=>
  refine ⟨.next,{ m with kn:=z1n m.kn (Sum.inr nm) },by show rowM "clear" (.str nm) m=_;rw [e0];unfold Zl;dsimp only;rw [e],⟨hm.st,fun q hq=>hm.kn q (List.mem_filter.mp hq).1,hm.sd,(by have:=hm.lst;show m.st.length≤_;lia),?_,(by have:=hm.lsd;show m.sd.length≤_;lia)⟩,qE _,by trivial,?_,by trivial⟩
  ·have:=List.length_filter_le (fun kv:Key × V=>decide (kv.1≠(Sum.inr nm:Key))) m.kn
   have:=hm.lkn
   show (m.kn.filter fun kv=>decide (kv.1≠(Sum.inr nm:Key))).length≤_
   lia
  ·show ((m.st.length:Nat):Int)=_
   unfold zG
   rw [show tabI zH "clear"=0 by trivial,show tabI zO "clear"=0 by trivial]
   lia
theorem z8G (hm:OkM m n) (ha:1≤m.st.length):Does ⟨"drop",arg,ln⟩ m n:=by
 have e0:rowM "drop" arg m=JQ "drop" arg m:=by (unfold rowM;repeat (first | rw [kC (by trivial)] | rw [kz (by trivial)]))
 obtain ⟨ys,x,e⟩:=jZ ha
 have hst:=hm.st
 have hl:=hm.lst
 rw [e] at hst hl
 rw [len1] at hl
 refine ⟨.next,{ m with st:=ys },?_,hm.stk (by lia) hst.left (by lia),qE _,by trivial,?_,by trivial⟩
 ·show rowM "drop" arg m=_
  rw [e0]
  unfold JQ
  rw [e,kK,kJ]
 ·show ((ys.length:Nat):Int)=_
  unfold zG
  rw [e,len1,show tabI zH "drop"=1 by trivial,show tabI zO "drop"=0 by trivial]
  lia
theorem z8z (hm:OkM m n) (hn:n≤900) (ha:1≤m.st.length):Does ⟨"tell",arg,ln⟩ m n:=by
 have e0:rowM "tell" arg m=JO "tell" arg m:=by (unfold rowM;repeat (first | rw [kC (by trivial)] | rw [kz (by trivial)]))
 obtain ⟨ys,x,e⟩:=jZ ha
 have hst:=hm.st
 have hl:=hm.lst
 rw [e] at hst hl
 rw [len1] at hl
 refine ⟨.next,{ m with st:=ys,sd:=m.sd++[x] },?_,⟨hst.left,hm.kn,hm.sd.app (okVs.one hst.last),(by show ys.length≤n+1;lia),(by have:=hm.lkn;show m.kn.length≤_;lia),(by have:=hm.lsd;show (m.sd++[x]).length≤_;rw [len1];lia)⟩,List.prefix_append _ _,by trivial,?_,by trivial⟩
 ·show rowM "tell" arg m=_
  rw [e0]
  unfold JO
  rw [e,kK,kJ]
  dsimp only
  rw [kC (js hm.lsd (by lia))]
 ·show ((ys.length:Nat):Int)=_
  unfold zG
  rw [e,len1,show tabI zH "tell"=1 by trivial,show tabI zO "tell"=0 by trivial]
  lia
theorem z3Q {st:List V} {k:Int} (h0:1≤k) (h1:k≤st.length):∃j v,J2 st (.int k)=some (j,v)∧v∈st∧j < st.length:=by
 have hj:st.length - k.toNat < st.length:=by lia
 refine ⟨st.length - k.toNat,st[st.length - k.toNat],?_,List.getElem_mem hj,hj⟩
 unfold J2
 dsimp only
 rw [kC ⟨h0,by lia⟩,kM hj]
 rfl
theorem z8H (hm:OkM m n) (hn:n≤900) {k:Int} (h0:1≤k) (h1:k≤m.st.length):Does ⟨"copy",.int k,ln⟩ m n:=by
 have e0:rowM "copy" (.int k) m=JR "copy" (.int k) m:=by (unfold rowM;repeat (first | rw [kC (by trivial)] | rw [kz (by trivial)]))
 obtain ⟨j,v,e,hv,_⟩:=z3Q h0 h1
 exact ZT hm hn (hm.st v hv) (by show rowM "copy" (.int k) m=_;rw [e0];unfold JR;rw [e];dsimp only;rw [kC (js hm.lst (by lia))]) (by trivial) (by trivial) (by trivial) (by trivial)
theorem z8A (hm:OkM m n) {k:Int} (h0:1≤k) (h1:k≤m.st.length):Does ⟨"swap",.int k,ln⟩ m n:=by
 have e0:rowM "swap" (.int k) m=JP "swap" (.int k) m:=by (unfold rowM;repeat (first | rw [kC (by trivial)] | rw [kz (by trivial)]))
 obtain ⟨j,v,e,hv,hj⟩:=z3Q h0 h1
 obtain ⟨ys,x,e1⟩:=jZ (l:=m.st) (by lia)
 have hx:m.st.getLast?=some x:=by rw [e1,kK]
 have hxm:x∈m.st:=by rw [e1];exact kO _ (ko.mpr rfl)
 have hall:okVs ((m.st.set (m.st.length - 1) v).set j x):=fun w hw=>by
  rcases List.mem_or_eq_of_mem_set hw with z | z
  ·rcases List.mem_or_eq_of_mem_set z with z | z
   ·exact hm.st w z
   ·rw [z];exact hm.st v hv
  ·rw [z];exact hm.st x hxm
 have hlen:((m.st.set (m.st.length - 1) v).set j x).length=m.st.length:=by rw [List.length_set,List.length_set]
 refine ⟨.next,{ m with st:=(m.st.set (m.st.length - 1) v).set j x },?_,hm.stk (by lia) hall (by rw [hlen];have:=hm.lst;lia),qE _,by trivial,?_,by trivial⟩
 ·show rowM "swap" (.int k) m=_
  rw [e0]
  unfold JP
  rw [e,hx]
 ·show ((((m.st.set (m.st.length - 1) v).set j x).length:Nat):Int)=_
  unfold zG
  rw [hlen,show tabI zH "swap"=0 by trivial,show tabI zO "swap"=0 by trivial]
  lia
theorem z8E (hm:OkM m n):Does ⟨"jump",arg,ln⟩ m n:=by
 have e0:rowM "jump" arg m=z2u "jump" arg m:=by (unfold rowM;repeat (first | rw [kC (by trivial)] | rw [kz (by trivial)]))
 refine ⟨.go,m,e0,hm.more (by lia),qE _,by trivial,?_⟩
 show ((m.st.length:Nat):Int)=_
 rw [kz (by trivial)]
 unfold zG
 rw [show tabI zH "jump"=0 by trivial,show tabI zO "jump"=0 by trivial]
 lia
theorem d_if {op:Str} (ho:op∈(["iftrue","iffalse"]:List Str)) (hm:OkM m n) (ha:1≤m.st.length):Does ⟨op,arg,ln⟩ m n:=by
 obtain ⟨e0,f1,f2,f3,f4,f5,f6⟩:rowM op arg m=gIf op arg m∧inT op qp=false∧inT op jumping=true∧inT op leaving=false∧tabI zH op=1∧tabI zO op=0∧tabI zU op=0:=by
  simp only [kF,kq,or_false] at ho
  rcases ho with rfl | rfl
  all_goals exact ⟨by (unfold rowM;repeat (first | rw [kC (by trivial)] | rw [kz (by trivial)])),by trivial,by trivial,by trivial,by trivial,by trivial,by trivial⟩
 obtain ⟨ys,x,e⟩:=jZ ha
 have hst:=hm.st
 have hl:=hm.lst
 rw [e] at hst hl
 rw [len1] at hl
 have hb:zG ⟨op,arg,ln⟩ (m.st.length:Int)=(ys.length:Int):=by
  unfold zG
  rw [f4,f5,e,len1]
  lia
 have e1:rowM op arg m=some (if jc x=decide (op="iftrue") then .go else .next,{ m with st:=ys }):=by
  rw [e0]
  unfold gIf
  rw [e,kK,kJ]
  dsimp only
  rw [kC (jF hst.last)]
 refine ⟨_,_,e1,hm.stk (by lia) hst.left (by lia),qE _,?_⟩
 by_cases hz:jc x=decide (op="iftrue")
 ·rw [kC hz]
  refine ⟨f2,?_⟩
  show ((ys.length:Nat):Int)=(if inT op leaving=true then _ else _)
  rw [f3,kz ka,hb]
 ·rw [kz hz]
  exact ⟨f1,hb.symm,f6⟩
theorem d_or {op:Str} (ho:op∈(["ortrue","orfalse"]:List Str)) (hm:OkM m n) (ha:1≤m.st.length):Does ⟨op,arg,ln⟩ m n:=by
 obtain ⟨e0,f1,f2,f3,f4,f5,f6⟩:rowM op arg m=gOr op arg m∧inT op qp=false∧inT op jumping=true∧inT op leaving=true∧tabI zH op=1∧tabI zO op=0∧tabI zU op=0:=by
  simp only [kF,kq,or_false] at ho
  rcases ho with rfl | rfl
  all_goals exact ⟨by (unfold rowM;repeat (first | rw [kC (by trivial)] | rw [kz (by trivial)])),by trivial,by trivial,by trivial,by trivial,by trivial,by trivial⟩
 obtain ⟨ys,x,e⟩:=jZ ha
 have hst:=hm.st
 have hl:=hm.lst
 rw [e] at hst hl
 rw [len1] at hl
 have hb:zG ⟨op,arg,ln⟩ (m.st.length:Int)=(ys.length:Int):=by
  unfold zG
  rw [f4,f5,e,len1]
  lia
 have e1:rowM op arg m=some (if jc x=decide (op="ortrue") then (.go,m) else (.next,{ m with st:=ys })):=by
  rw [e0]
  unfold gOr
  rw [e,kK,kJ]
  dsimp only
  rw [kC (jF hst.last)]
 by_cases hz:jc x=decide (op="ortrue")
 ·rw [kC hz] at e1
  refine ⟨_,_,e1,hm.more (by lia),qE _,f2,?_⟩
  show ((m.st.length:Nat):Int)=(if inT op leaving=true then _ else _)
  rw [f3,kC rfl]
 ·rw [kz hz] at e1
  exact ⟨_,_,e1,hm.stk (by lia) hst.left (by lia),qE _,f1,hb.symm,f6⟩
theorem z5f (hm:OkM m n) (ha:1≤m.st.length):Does ⟨"return",arg,ln⟩ m n:=by
 have e0:rowM "return" arg m=jS "return" arg m:=by (unfold rowM;repeat (first | rw [kC (by trivial)] | rw [kz (by trivial)]))
 obtain ⟨ys,x,e⟩:=jZ ha
 have hst:=hm.st
 have hl:=hm.lst
 rw [e] at hst hl
 rw [len1] at hl
 refine ⟨.value x,{ m with st:=ys },?_,hm.stk (by lia) hst.left (by lia),qE _,rfl,hst.last⟩
 show rowM "return" arg m=_
 rw [e0]
 unfold jS
 rw [e,kK,kJ]
theorem z7b (hm:OkM m n) (ha:1≤m.st.length):Does ⟨"raise",arg,ln⟩ m n:=by
 have e0:rowM "raise" arg m=ZP "raise" arg m:=by (unfold rowM;repeat (first | rw [kC (by trivial)] | rw [kz (by trivial)]))
 obtain ⟨ys,x,e⟩:=jZ ha
 have hst:=hm.st
 have hl:=hm.lst
 rw [e] at hst hl
 rw [len1] at hl
 obtain ⟨k,hk,hin⟩:∃k,z1i x=some k∧k∈j3:=by
  have hx:=hst.last
  cases x with
  | str z=>
   have hz:=kE (show decide (z∈j3)=true from hx)
   refine ⟨z,?_,hz⟩
   unfold z1i
   dsimp only
   rw [kC (Zh z hz).2]
  | _=>exact ⟨"Type",rfl,by trivial⟩
 refine ⟨.fault k,{ m with st:=ys },?_,hm.stk (by lia) hst.left (by lia),qE _,by trivial,hin,?_,?_⟩
 ·show rowM "raise" arg m=_
  rw [e0]
  unfold ZP
  rw [e,kK,kJ]
  dsimp only
  rw [kC (jF hst.last),hk]
  rfl
 ·show _≤((ys.length:Nat):Int)
  rw [show zV ⟨"raise",arg,ln⟩=1 by unfold zV;rw [kz (by trivial)];trivial,e,len1]
  lia
 ·show ((ys.length:Nat):Int)≤_
  rw [e,len1]
  lia
theorem z5H {r:Row} (hm:OkM m n) (hn:n≤900) {ys:List V} (hy:okVs ys) (hl:ys.length≤n) {r1 r2:V} (h:(r1=.non∧okV r2=true)∨∃k,k∈j3∧r1=.str k∧inT r.op faulting=true)
  (e:rowM r.op r.arg m=pofM r1 r2 { m with st:=ys }) (h1:inT r.op qp=false) (h2:zG r (m.st.length:Int)=(ys.length:Int)+1) (h3:tabI zU r.op=0) (h4:(m.st.length:Int) - zV r=(ys.length:Int)) (h5:ys.length≤m.st.length):Does r m n:=by
 rcases h with ⟨rfl,hv⟩ | ⟨k,hk,rfl,hf⟩
 ·have e2:pofM .non r2 { m with st:=ys }=some (.next,{ m with st:=ys++[r2] }):=by
   unfold pofM
   dsimp only
   rw [kC (js hl (by lia))]
  rw [e2] at e
  refine ⟨_,_,e,hm.stk (by lia) (hy.app (okVs.one hv)) (by rw [len1];lia),qE _,h1,?_,h3⟩
  show (((ys++[r2]).length:Nat):Int)=_
  rw [h2,len1]
  lia
 ·refine ⟨_,_,e,hm.stk (by lia) hy (by lia),qE _,hf,hk,?_,?_⟩
  ·show _≤((ys.length:Nat):Int)
   lia
  ·show ((ys.length:Nat):Int)≤_
   lia
theorem z1p {op:Str} (ho:op∈jo) (hm:OkM m n) (hn:n≤900) (ha:2≤m.st.length):Does ⟨op,arg,ln⟩ m n:=by
 obtain ⟨ys,x,y,e⟩:=z7C ha
 have hst:=hm.st
 have hl:=hm.lst
 rw [e] at hst hl
 rw [len1,len1] at hl
 obtain ⟨r1,r2,e1,e2⟩:=z4D ho hst.left.last hst.last
 obtain ⟨f1,f4,f5,f6,f7⟩:inT op qp=false∧tabI zH op=2∧tabI zO op=1∧tabI zU op=0∧inT op qD=false:=by
  unfold jo at ho
  simp only [kF,kq,or_false] at ho
  rcases ho with rfl | rfl | rfl | rfl | rfl | rfl | rfl
  all_goals exact ⟨by trivial,by trivial,by trivial,by trivial,by trivial⟩
 refine z5H (ys:=ys) hm hn hst.left.left (by lia) e2 ?_ f1 ?_ f6 ?_ ?_
 ·show rowM op arg m=_
  unfold rowM
  rw [kC ho]
  unfold gTwo
  rw [e,kK,kJ,kK,kJ]
  dsimp only
  rw [kC ⟨jF hst.left.last,jF hst.last⟩,e1]
 ·unfold zG
  rw [f4,f5,e,len1,len1]
  lia
 ·unfold zV
  rw [f7,kz ka]
  show _ - tabI zH op=_
  rw [f4,e,len1,len1]
  lia
 ·rw [e,len1,len1];lia
theorem z8C {op:Str} (ho:op∈jK) (hm:OkM m n) (hn:n≤900) (ha:1≤m.st.length):Does ⟨op,arg,ln⟩ m n:=by
 obtain ⟨ys,x,e⟩:=jZ ha
 have hst:=hm.st
 have hl:=hm.lst
 rw [e] at hst hl
 rw [len1] at hl
 obtain ⟨r1,r2,e1,e2⟩:=z4E ho hst.last
 obtain ⟨f0,f1,f4,f5,f6,f7⟩:op∉jo∧inT op qp=false∧tabI zH op=1∧tabI zO op=1∧tabI zU op=0∧inT op qD=false:=by
  unfold jK at ho
  simp only [kF,kq,or_false] at ho
  rcases ho with rfl | rfl
  all_goals exact ⟨by trivial,by trivial,by trivial,by trivial,by trivial,by trivial⟩
 refine z5H (ys:=ys) hm hn hst.left (by lia) e2 ?_ f1 ?_ f6 ?_ ?_
 ·show rowM op arg m=_
  unfold rowM
  rw [kz f0,kC ho]
  unfold gOne
  rw [e,kK,kJ]
  dsimp only
  rw [kC (jF hst.last),e1]
 ·unfold zG
  rw [f4,f5,e,len1]
  lia
 ·unfold zV
  rw [f7,kz ka]
  show _ - tabI zH op=_
  rw [f4,e,len1]
  lia
 ·rw [e,len1];lia
theorem z5M {α:Type} {x:Str} {v:α}:∀{t:List (Str × α)},t.lookup x=some v→x∈t.map (·.1)
 | (k,u) :: t,h=>by
  rw [List.lookup_cons] at h
  by_cases e:(x == k)=true
  ·rw [show x=k by simpa using e]
   exact kR ..
  ·have e:(x == k)=false:=by simpa using e
   rw [e] at h
   exact kS _ (z5M h)
theorem z3g {op:Str} {s:Str} (h:qa op=some s):op∈(["push","load","quick","store","clear","copy","swap","jump","iftrue","iffalse","ortrue","orfalse","try","label","add","sub","mul","div","rest","less","same","neg","not","drop","tell","return","raise","endtry"]:List Str):=z5M h
theorem QU {op:Str} (h:inT op qD=false):zV ⟨op,arg,ln⟩=tabI zH op:=by
 unfold zV
 rw [h,kz ka]
theorem z5F {r:Row} (hm:OkM m n) (hn:n≤900) (hok:jV r) (hp:r.op="push"→okV r.arg=true) (ha:zV r≤(m.st.length:Int)) (hs:r.op∉jD):Does r m n:=by
 obtain ⟨op,arg,ln⟩:=r
 obtain ⟨s,hso,_⟩:=hok.parts
 have hop:=z3g hso
 have one:inT op qD=false→tabI zH op=1→1≤m.st.length:=fun h1 h2=>by
  rw [QU h1,h2] at ha
  lia
 have two:inT op qD=false→tabI zH op=2→2≤m.st.length:=fun h1 h2=>by
  rw [QU h1,h2] at ha
  lia
 simp only [kF,kq,or_false] at hop
 rcases hop with rfl | rfl | rfl | rfl | rfl | rfl | rfl | rfl | rfl | rfl | rfl | rfl | rfl | rfl | rfl | rfl | rfl | rfl | rfl | rfl | rfl | rfl | rfl | rfl | rfl | rfl | rfl | rfl
 ·exact z8B hm hn (hp rfl)
 ·exact z8D hm hn hok
 ·exact z7c hm hn hok
 ·exact z7a hm hn hok (one (by trivial) (by trivial))
 ·exact z7e hm hok
 ·obtain ⟨k,hk,h1,_⟩:=Q8 hok (show inT "copy" qD=true by trivial)
  have hk:arg=.int k:=hk
  subst hk
  have e:zV ⟨"copy",.int k,ln⟩=k:=by unfold zV;rw [kC (by trivial)]
  rw [e] at ha
  exact z8H hm hn h1 ha
 ·obtain ⟨k,hk,h1,_⟩:=Q8 hok (show inT "swap" qD=true by trivial)
  have hk:arg=.int k:=hk
  subst hk
  have e:zV ⟨"swap",.int k,ln⟩=k:=by unfold zV;rw [kC (by trivial)]
  rw [e] at ha
  exact z8A hm h1 ha
 ·exact z8E hm
 ·exact d_if (by trivial) hm (one (by trivial) (by trivial))
 ·exact d_if (by trivial) hm (one (by trivial) (by trivial))
 ·exact d_or (by trivial) hm (one (by trivial) (by trivial))
 ·exact d_or (by trivial) hm (one (by trivial) (by trivial))
 ·exact absurd (by trivial) hs
 ·exact absurd (by trivial) hs
 ·exact z1p (by trivial) hm hn (two (by trivial) (by trivial))
 ·exact z1p (by trivial) hm hn (two (by trivial) (by trivial))
 ·exact z1p (by trivial) hm hn (two (by trivial) (by trivial))
 ·exact z1p (by trivial) hm hn (two (by trivial) (by trivial))
 ·exact z1p (by trivial) hm hn (two (by trivial) (by trivial))
 ·exact z1p (by trivial) hm hn (two (by trivial) (by trivial))
 ·exact z1p (by trivial) hm hn (two (by trivial) (by trivial))
 ·exact z8C (by trivial) hm hn (one (by trivial) (by trivial))
 ·exact z8C (by trivial) hm hn (one (by trivial) (by trivial))
 ·exact z8G hm (one (by trivial) (by trivial))
 ·exact z8z hm hn (one (by trivial) (by trivial))
 ·exact z5f hm (one (by trivial) (by trivial))
 ·exact z7b hm (one (by trivial) (by trivial))
 ·exact absurd (by trivial) hs
end
inductive Gok:List Gd→Int→Prop where
 | nil {d:Int}:Gok [] d
 | snoc {gs:List Gd} {g:Gd} {d:Int} (h:Gok gs g.2) (h0:0≤g.2) (h1:g.2≤d):Gok (gs++[g]) d
theorem Gok.inv {gs:List Gd} {d:Int} (h:Gok gs d) {g:Gd} (e:gs.getLast?=some g):0≤g.2∧g.2≤d∧Gok gs.dropLast g.2:=by
 cases h with
 | nil=>cases e
 | snoc h h0 h1=>
  rw [kK] at e
  cases e
  rw [kJ]
  exact ⟨h0,h1,h⟩
theorem Gok.at_ {gs:List Gd} {d d':Int} (h:Gok gs d) (hd:∀g,gs.getLast?=some g→g.2≤d'):Gok gs d':=by
 cases h with
 | nil=>exact .nil
 | snoc h h0 h1=>exact .snoc h h0 (hd _ kK)
theorem Gok.up {gs:List Gd} {d d':Int} (h:Gok gs d) (hd:d≤d'):Gok gs d':=h.at_ fun g e=>by have:=(h.inv e).2.1;lia
theorem jY {rs:List Row} {p:Nat} {r:Row} {d:Int} {og:Option Gd} (h:Zy rs p r d og=[]):¬d < zV r∧Zp r og=false∧qB r d og=false:=by
 unfold Zy Qa at h
 have h1:=List.map_eq_nil_iff.mp h
 have h2:=List.filter_eq_nil_iff.mp h1
 refine ⟨fun z=>?_,?_,?_⟩
 ·exact h2 _ (kR ..) (ki z)
 ·cases e:Zp r og with
  | false=>rfl
  | true=>exact absurd e (h2 (("guard":Str),Zp r og) (by simp))
 ·cases e:qB r d og with
  | false=>rfl
  | true=>exact absurd e (h2 (("beneath":Str),qB r d og) (by simp))
section
variable {rs:List Row} {S:Fnd} {p:Nat} {r:Row} {d:Int} {gs:List Gd}
theorem z1g (T:jN rs S) (hr:rs[p]?=some r) (hS:S[p]?=some (some (d,gs))) {m:Mv} (hm:m∈mv1 r p d++mv2 rs r d++mv3 rs r gs.getLast?):∃j:Nat,m.1=.int (j:Int)∧S[j]?=some (some (m.2.1,zW r d gs m.2.2)):=by
 obtain ⟨h1,h2,h3⟩:=jY (T.here p r _ hr hS).1
 refine T.next p r (d,gs) hr hS m.1 (m.2.1,zW r d gs m.2.2) ?_
 unfold Ql
 refine yh.mpr ⟨m,?_,rfl⟩
 unfold j8
 rw [kh h1,kz ka,h2,kz ka]
 exact hm
theorem z3j (T:jN rs S) (hr:rs[p]?=some r) (hS:S[p]?=some (some (d,gs))) (hn:inT r.op qp=false):S[p+1]?=some (some (zG r d,zW r d gs (tabI zU r.op))):=by
 obtain ⟨j,h1,h2⟩:=z1g T hr hS (m:=(.int ((p:Int)+1),zG r d,tabI zU r.op)) (by
  refine kP _ (kP _ ?_)
  unfold mv1
  rw [hn,kz ka]
  exact ko.mpr rfl)
 have h1:V.int ((p:Int)+1)=V.int (j:Int):=h1
 injection h1 with h1
 have:j=p+1:=by lia
 rw [this] at h2
 exact h2
theorem z5N {m:Int} {j:Nat} (h:labV rs m=.int (j:Int)):zw rs m=some j:=by
 unfold labV at h
 cases e:zw rs m with
 | none=>rw [e] at h;cases h
 | some i=>
  rw [e] at h
  injection h with h
  congr 1
  lia
theorem z6z (T:jN rs S) (hc:Code rs) (hr:rs[p]?=some r) (hS:S[p]?=some (some (d,gs))) (hj:inT r.op jumping=true):
  ∃(mk:Int) (j:Nat),r.arg=.int mk∧zw rs mk=some j∧S[j]?=some (some ((if inT r.op leaving=true then d else zG r d),gs)):=by
 obtain ⟨mk,j0,ha,hf⟩:=JK hc hr hj
 obtain ⟨j,h1,h2⟩:=z1g T hr hS (m:=(labV rs (argM r.arg),(if inT r.op leaving=true then d else zG r d),0)) (by
  refine kP _ (kO _ ?_)
  unfold mv2
  rw [kC hj]
  exact ko.mpr rfl)
 have h1:=z5N h1
 rw [ha] at h1
 refine ⟨mk,j,ha,h1,?_⟩
 have e0:zW r d gs 0=gs:=by unfold zW;rw [kz (by decide),kz (by decide)]
 have h2:S[j]?=some (some ((if inT r.op leaving=true then d else zG r d),zW r d gs 0)):=h2
 rw [e0] at h2
 exact h2
theorem z5b (T:jN rs S) (hr:rs[p]?=some r) (hS:S[p]?=some (some (d,gs))) (hf:inT r.op faulting=true) {g:Gd} (hg:gs.getLast?=some g):∃j:Nat,zw rs g.1=some j∧S[j]?=some (some (g.2+1,gs.dropLast)):=by
 obtain ⟨j,h1,h2⟩:=z1g T hr hS (m:=(labV rs g.1,g.2+1,-1)) (by
  refine kO _ ?_
  unfold mv3
  rw [kC hf,hg]
  exact ko.mpr rfl)
 refine ⟨j,z5N h1,?_⟩
 have e0:zW r d gs (-1)=gs.dropLast:=by unfold zW;rw [kz (by decide),kC rfl]
 have h2:S[j]?=some (some (g.2+1,zW r d gs (-1))):=h2
 rw [e0] at h2
 exact h2
end
def z7k (rs:List Row) (S:Fnd) (d:Nat) (p:Nat) (gs:List Gd):Prop:=S[p]?=some (some ((d:Int),gs))∧Gok gs d∧∃r,rs[p]?=some r∧r.op∉jD
theorem Zt {rs:List Row} {S:Fnd} (T:jN rs S) (hc:Code rs) {d:Nat}:∀(k p:Nat) (gs:List Gd),rs.length < p+k→S[p]?=some (some ((d:Int),gs))→Gok gs d→∃p' gs',qN rs d k p gs=some (p',gs')∧z7k rs S d p' gs'
 | 0,p,gs,hk,hS,_=>by
  have:=(kf.mp hS).1
  rw [T.len] at this
  lia
 | k+1,p,gs,hk,hS,hg=>by
  have hp:p < rs.length:=by
   have:=(kf.mp hS).1
   rw [T.len] at this
   exact this
  have hr:rs[p]?=some rs[p]:=kM hp
  generalize rs[p]=r at hr
  obtain ⟨w1,w2⟩:=T.here p r _ hr hS
  obtain ⟨h1,h2,h3⟩:=jY w1
  have stand:inT r.op qp=false→tabI zH r.op=0→tabI zO r.op=0→S[p+1]?=some (some ((d:Int),zW r d gs (tabI zU r.op))):=fun a b c=>by
   have:=z3j T hr hS a
   unfold zG at this
   rw [b,c] at this
   rw [show (d:Int) - 0+0=d by lia] at this
   exact this
  unfold qN
  rw [hr]
  dsimp only
  by_cases c1:r.op="label"
  ·rw [kC c1]
   have:=stand (by rw [c1];decide+kernel) (by rw [c1];decide+kernel) (by rw [c1];decide+kernel)
   rw [c1,show tabI zU "label"=0 by trivial] at this
   have e0:zW r d gs 0=gs:=by unfold zW;rw [kz (by decide),kz (by decide)]
   rw [e0] at this
   exact Zt T hc k (p+1) gs (by lia) this hg
  rw [kz c1]
  by_cases c2:r.op="try"
  ·rw [kC c2]
   have:=stand (by rw [c2];decide+kernel) (by rw [c2];decide+kernel) (by rw [c2];decide+kernel)
   rw [c2,show tabI zU "try"=1 by trivial] at this
   have e0:zW r d gs 1=gs++[(argM r.arg,(d:Int))]:=by unfold zW;rw [kC rfl]
   rw [e0] at this
   obtain ⟨mk,ha⟩:∃mk,r.arg=.int mk:=by
    have hfit:=hc.fit p r hr
    unfold jG at hfit
    rw [kz c1,kC (by rw [c2];decide+kernel)] at hfit
    cases e:r.arg with
    | int mk=>exact ⟨mk,rfl⟩
    | _=>rw [e] at hfit;cases hfit
   rw [ha] at this ⊢
   dsimp only
   rw [kC (show qC gs.length=true from ki w2)]
   exact Zt T hc k (p+1) _ (by lia) this (.snoc hg (by show (0:Int)≤d;lia) (Int.le_refl _))
  rw [kz c2]
  by_cases c3:r.op="endtry"
  ·rw [kC c3]
   have:=stand (by rw [c3];decide+kernel) (by rw [c3];decide+kernel) (by rw [c3];decide+kernel)
   rw [c3,show tabI zU "endtry"= -1 by trivial] at this
   have e0:zW r d gs (-1)=gs.dropLast:=by unfold zW;rw [kz (by decide),kC rfl]
   rw [e0] at this
   have hne:¬gs=[]:=fun z=>by
    rw [z] at h2
    unfold Zp at h2
    rw [ki c3] at h2
    cases h2
   rw [kz hne]
   refine Zt T hc k (p+1) _ (by lia) this ?_
   cases e:gs.getLast? with
   | none=>exact absurd (List.getLast?_eq_none_iff.mp e) hne
   | some g=>
    obtain ⟨a,b,c⟩:=hg.inv e
    exact c.up b
  rw [kz c3]
  refine ⟨p,gs,rfl,hS,hg,r,hr,?_⟩
  unfold jD
  simp only [kF,kq,or_false]
  rintro (z | z | z)
  ·exact c1 z
  ·exact c2 z
  ·exact c3 z
structure InvM (rs:List Row) (S:Fnd) (m:Mst) (gs:List Gd) (p n:Nat):Prop where
 ok:OkM m n
 at_:z7k rs S m.st.length p gs
noncomputable def onE:List V:=[.str "on"]
structure z03 (e:List V):Prop where
 ne:e≠onE
 form:(∃v,e=[.str "value",v]∧okV v=true)∨∃k l,e=[.str "fault",.str k,.int l]∧k∈j3∧0≤l∧l≤9999
theorem z3N {v:V} (h:okV v=true):z03 [.str "value",v]:=⟨nofun,.inl ⟨v,rfl,h⟩⟩
theorem z3O {k:Str} {l:Int} (h:k∈j3) (h0:0≤l) (h1:l≤9999):z03 [.str "fault",.str k,.int l]:=⟨nofun,.inr ⟨k,l,rfl,h,h0,h1⟩⟩
theorem z8I (st:List V) {g:Int} (h0:0≤g) (h1:g≤st.length):cutV st none (some g)=st.take g.toNat:=by
 unfold cutV
 have e1:HT.sIx st.length 0 none=0:=rfl
 have e2:HT.sIx st.length st.length (some g)=g.toNat:=by
  unfold HT.sIx
  first
   | (rw [kz (by lia)];lia)
   | (simp only [];split <;> lia)
   | (simp only [HT.sIx];lia)
 rw [e1,e2,List.drop_zero,Nat.sub_zero]
theorem z5Y {rs:List Row} {S:Fnd} (T:jN rs S) (hc:Code rs) {p:Nat} {r:Row} {d:Int} {gs:List Gd} (hr:rs[p]?=some r) (hS:S[p]?=some (some (d,gs))) (hg:Gok gs d) {m:Mst} {n:Nat} (hm:OkM m (n+1)) (hn:n≤900) {k:Str} (hk:k∈j3) (hf:inT r.op faulting=true) (h1:d - zV r≤(m.st.length:Int)) (h2:(m.st.length:Int)≤d) (hd:d≤n) (hd0:0≤d):
  ∃m' gs' e' here',z07 rs m gs [.str "on"] k r.line=some (m',gs',e',here')∧m'.sd=m.sd∧OkM m' (n+1)∧((∃p',here'=some p'∧e'=onE∧InvM rs S m' gs' p' (n+1))∨(here'=none∧z03 e')):=by
 have hok:=hc.ok r (kI hr)
 obtain ⟨w1,w2,w3⟩:=jY (T.here p r _ hr hS).1
 unfold z07
 cases e:gs.getLast? with
 | none=>
  refine ⟨_,_,_,_,rfl,rfl,hm,.inr ⟨rfl,z3O hk ?_ ?_⟩⟩
  all_goals
   have h:rowV r.op r.arg (.int r.line)=true:=hok
   unfold rowV at h
   rw [yf] at h
   have h:=h.2
   have h:(decide (0≤r.line)&&decide (r.line≤9999))=true:=h
   rw [yf,yg,yg] at h
   lia
 | some g=>
  obtain ⟨a,b,c⟩:=hg.inv e
  have hfit:g.2≤(m.st.length:Int):=by
   have w3:qB r d gs.getLast?=false:=w3
   rw [e] at w3
   unfold qB at w3
   dsimp only at w3
   have hcp:¬r.op="copy":=fun z=>by
    rw [z] at hf
    exact absurd hf (by trivial)
   rw [kz hcp] at w3
   have w3:=of_decide_eq_false w3
   split at w3 <;> split at w3 <;> lia
  obtain ⟨j,hj,hSj⟩:=z5b T hr hS hf e
  dsimp only
  rw [kC (js hm.lst (by lia)),hj]
  dsimp only
  rw [z8I m.st a hfit]
  have hlen:(m.st.take g.2.toNat++[V.str k]).length=g.2.toNat+1:=by
   rw [kl,List.length_take,kH]
   lia
  have hokm:OkM { m with st:=m.st.take g.2.toNat++[V.str k] } (n+1):=hm.stk (ke _) (okVs.app (a:=m.st.take g.2.toNat) (fun v hv=>hm.st v (List.mem_of_mem_take hv)) (okVs.one (show decide (k∈j3)=true from ki hk))) (by rw [hlen];lia)
  rw [hlen]
  have eg:(((g.2.toNat+1:Nat)):Int)=g.2+1:=by lia
  obtain ⟨p',gs',e1,e2⟩:=Zt T hc (d:=g.2.toNat+1) 200 j gs.dropLast (by have:=hc.hi;lia) (by rw [eg];exact hSj) (c.up (by lia))
  rw [e1]
  dsimp only
  refine ⟨_,_,_,_,rfl,rfl,hokm,.inl ⟨p',rfl,rfl,hokm,?_⟩⟩
  show z7k rs S (m.st.take g.2.toNat++[V.str k]).length p' gs'
  rw [hlen]
  exact e2
theorem z62 {rs:List Row} {S:Fnd} (T:jN rs S) (hc:Code rs) (hv:∀r∈rs,r.op="push"→okV r.arg=true) {m:Mst} {gs:List Gd} {pas:List Nat} {p:Nat} (I:InvM rs S m gs p pas.length) (hn:pas.length≤900):
  ∃m' gs' e' here',Qh rs m gs pas p=some (m',gs',pas++[p],e',here')∧m.sd <+: m'.sd∧OkM m' (pas.length+1)∧((∃p',here'=some p'∧e'=onE∧InvM rs S m' gs' p' (pas.length+1))∨(here'=none∧z03 e')):=by
 obtain ⟨hm,hS,hg,r,hr,hs⟩:=I
 have hmem:=kI hr
 obtain ⟨w1,w2,w3⟩:=jY (T.here p r _ hr hS).1
 obtain ⟨res,m',e1,e2,e3,e4⟩:=z5F hm hn (hc.ok r hmem) (hv r hmem) (by lia) hs
 have hlen:=hc.hi
 have go:∀(j:Nat),S[j]?=some (some ((m'.st.length:Int),gs))→Gok gs (m'.st.length:Int)→∃p' gs',qN rs m'.st.length 200 j gs=some (p',gs')∧InvM rs S m' gs' p' (pas.length+1):=fun j hj hgk=>by
  obtain ⟨p',gs',h1,h2⟩:=Zt T hc 200 j gs (by lia) hj hgk
  exact ⟨p',gs',h1,e2,h2⟩
 unfold Qh
 rw [hr]
 dsimp only
 rw [kC (js hn (by decide)),e1]
 have deep:∀{x:Int},x=zG r (m.st.length:Int)→Gok gs x:=fun {x} hx=>hg.at_ fun g e=>by
  have b1:=(hg.inv e).2.1
  have w3:qB r (m.st.length:Int) gs.getLast?=false:=w3
  rw [e] at w3
  unfold qB at w3
  dsimp only at w3
  have hb:x=(m.st.length:Int) - tabI zH r.op+tabI zO r.op:=hx
  have tk:0≤tabI zO r.op∧(tabI zH r.op≤zV r∨tabI zH r.op=0)∧(r.op="copy"→tabI zH r.op=0):=by
   obtain ⟨op,arg,ln⟩:=r
   obtain ⟨s,hso,_⟩:=(hc.ok _ hmem).parts
   refine ⟨?_,?_,fun z=>by rw [z];decide+kernel⟩
   ·have hop:=z3g hso
    have all:∀o∈(["push","load","quick","store","clear","copy","swap","jump","iftrue","iffalse","ortrue","orfalse","try","label","add","sub","mul","div","rest","less","same","neg","not","drop","tell","return","raise","endtry"]:List Str),0≤tabI zO o:=by trivial
    exact all op hop
   ·by_cases hdp:inT op qD=true
    ·right
     have all:∀o∈qD,tabI zH o=0:=by trivial
     exact all op (qT.mp hdp)
    ·left
     rw [QU (by simpa using hdp)]
     exact Int.le_refl _
  by_cases hcp:r.op="copy"
  ·have:=tk.2.2 hcp
   lia
  ·rw [kz hcp] at w3
   have w3:=of_decide_eq_false w3
   obtain ⟨t1,t2,_⟩:=tk
   split at w3 <;> split at w3 <;> lia
 cases res with
 | next=>
  obtain ⟨f1,f2,f3⟩:=e4
  have hx:=z3j T hr hS f1
  have e0:zW r (m.st.length:Int) gs 0=gs:=by unfold zW;rw [kz (by decide),kz (by decide)]
  rw [f3,e0,←f2] at hx
  obtain ⟨p',gs',h1,h2⟩:=go (p+1) hx (deep f2)
  dsimp only
  rw [h1]
  exact ⟨_,_,_,_,rfl,e3,e2,.inl ⟨p',rfl,rfl,h2⟩⟩
 | go=>
  obtain ⟨f1,f2⟩:=e4
  obtain ⟨mk,j,ha,hj,hx⟩:=z6z T hc hr hS f1
  rw [←f2] at hx
  have hgk:Gok gs (m'.st.length:Int):=by
   rw [f2]
   split
   ·exact hg
   ·exact deep rfl
  obtain ⟨p',gs',h1,h2⟩:=go j hx hgk
  rw [ha]
  dsimp only
  rw [hj]
  dsimp only
  rw [h1]
  exact ⟨_,_,_,_,rfl,e3,e2,.inl ⟨p',rfl,rfl,h2⟩⟩
 | fault k=>
  obtain ⟨f1,f2,f3,f4⟩:=e4
  obtain ⟨m2,gs2,e',here',t1,t2,t3,t4⟩:=z5Y T hc hr hS hg e2 hn f2 f1 f3 f4 (by have:=hm.lst;lia) (by lia)
  dsimp only
  rw [t1]
  exact ⟨_,_,_,_,rfl,by rw [t2];exact e3,t3,t4⟩
 | value v=>exact ⟨_,_,_,_,rfl,e3,e2,.inr ⟨rfl,z3N e4.2⟩⟩
structure S5 where
 m:Mst
 gs:List Gd
 pas:List Nat
 e:List V
 here:Option Nat
noncomputable def stp (rs:List Row) (s:S5):S5:=match s.here with
 | none=>s
 | some p=>match Qh rs s.m s.gs s.pas p with
  | some (m,gs,pas,e,here)=>⟨m,gs,pas,e,here⟩
  | none=>s
noncomputable def seqM (rs:List Row) (s0:S5):Nat→S5
 | 0=>s0
 | i+1=>stp rs (seqM rs s0 i)
def Q9 (rs:List Row) (S:Fnd) (i:Nat) (s:S5):Prop:=∃p,s.here=some p∧s.e=onE∧s.pas.length=i∧InvM rs S s.m s.gs p i
structure z7m (i:Nat) (s:S5):Prop where
 here:s.here=none
 e:z03 s.e
 len:s.pas.length≤i
 ok:OkM s.m i
section
variable {rs:List Row} {S:Fnd} {s0:S5}
theorem Jp {s:S5} (h:s.here=none):stp rs s=s:=by
 unfold stp
 rw [h]
theorem z08 (T:jN rs S) (hc:Code rs) (hv:∀r∈rs,r.op="push"→okV r.arg=true) {i:Nat} {s:S5} (hi:i≤900) (h:Q9 rs S i s):
  (∃p,s.here=some p∧Qh rs s.m s.gs s.pas p=some ((stp rs s).m,(stp rs s).gs,(stp rs s).pas,(stp rs s).e,(stp rs s).here))∧s.m.sd <+: (stp rs s).m.sd∧(stp rs s).pas.length=i+1∧(Q9 rs S (i+1) (stp rs s)∨z7m (i+1) (stp rs s)):=by
 obtain ⟨p,h1,h2,h3,h4⟩:=h
 rw [←h3] at h4 hi
 obtain ⟨m',gs',e',here',e1,e2,e3,e4⟩:=z62 T hc hv h4 hi
 have es:stp rs s=⟨m',gs',s.pas++[p],e',here'⟩:=by
  unfold stp
  rw [h1]
  dsimp only
  rw [e1]
 have hl:(s.pas++[p]).length=i+1:=by rw [kl,kH,h3]
 rw [es]
 rw [h3] at e3
 refine ⟨⟨p,h1,e1⟩,e2,hl,?_⟩
 rcases e4 with ⟨p',f1,f2,f3⟩ | ⟨f1,f2⟩
 ·rw [h3] at f3
  exact .inl ⟨p',f1,f2,hl,f3⟩
 ·exact .inr ⟨f1,f2,ya hl,e3⟩
theorem J7 (T:jN rs S) (hc:Code rs) (hv:∀r∈rs,r.op="push"→okV r.arg=true) (h0:Q9 rs S 0 s0):∀i,i≤900→Q9 rs S i (seqM rs s0 i)∨z7m i (seqM rs s0 i)
 | 0,_=>.inl h0
 | i+1,hi=>by
  rcases J7 T hc hv h0 i (by lia) with h | h
  ·exact (z08 T hc hv (by lia) h).2.2.2
  ·right
   show z7m (i+1) (stp rs (seqM rs s0 i))
   rw [Jp h.here]
   exact ⟨h.here,h.e,by have:=h.len;lia,h.ok.more (by lia)⟩
theorem Qr {i:Nat} (h:(seqM rs s0 i).here=none):∀j,i≤j→seqM rs s0 j=seqM rs s0 i
 | 0,hj=>by rw [show i=0 by lia]
 | j+1,hj=>by
  by_cases e:i=j+1
  ·rw [e]
  ·have ih:=Qr h j (by lia)
   show stp rs (seqM rs s0 j)=_
   rw [ih,Jp h]
theorem z1x (T:jN rs S) (hc:Code rs) (hv:∀r∈rs,r.op="push"→okV r.arg=true) (h0:Q9 rs S 0 s0) {i:Nat}:∀j,i≤j→j≤900→(seqM rs s0 i).m.sd <+: (seqM rs s0 j).m.sd∧(seqM rs s0 i).pas.length≤(seqM rs s0 j).pas.length
 | 0,hj,_=>by rw [show i=0 by lia];exact ⟨List.prefix_refl _,ke _⟩
 | j+1,hj,hb=>by
  by_cases e:i=j+1
  ·rw [e];exact ⟨List.prefix_refl _,ke _⟩
  ·obtain ⟨a,b⟩:=z1x T hc hv h0 (i:=i) j (by lia) (by lia)
   rcases J7 T hc hv h0 j (by lia) with h | h
   ·obtain ⟨_,c,d,_⟩:=z08 T hc hv (by lia) h
    have hl:(seqM rs s0 j).pas.length=j:=h.elim fun _ q=>q.2.2.1
    refine ⟨a.trans c,?_⟩
    show _≤(stp rs (seqM rs s0 j)).pas.length
    lia
   ·show _ <+: (stp rs (seqM rs s0 j)).m.sd∧_≤(stp rs (seqM rs s0 j)).pas.length
    rw [Jp h.here]
    exact ⟨a,b⟩
theorem z1y (T:jN rs S) (hc:Code rs) (hv:∀r∈rs,r.op="push"→okV r.arg=true) (h0:Q9 rs S 0 s0):∀i,i≤900→(seqM rs s0 i).here=none→seqM rs s0 (seqM rs s0 i).pas.length=seqM rs s0 i
 | 0,_,h=>by
  obtain ⟨p,h1,_⟩:=h0
  have h:s0.here=none:=h
  rw [h1] at h
  cases h
 | i+1,hi,h=>by
  rcases J7 T hc hv h0 i (by lia) with g | g
  ·obtain ⟨_,_,d,_⟩:=z08 T hc hv (by lia) g
   have:(seqM rs s0 (i+1)).pas.length=i+1:=d
   rw [this]
  ·have e:seqM rs s0 (i+1)=seqM rs s0 i:=Jp g.here
   rw [e]
   exact z1y T hc hv h0 i (by lia) g.here
theorem z1P (T:jN rs S) (hc:Code rs) (hv:∀r∈rs,r.op="push"→okV r.arg=true) (h0:Q9 rs S 0 s0) {steps:Nat} (hs:steps≤900):∀(k i:Nat),i≤steps→steps≤i+k→
  Z5 rs steps k (seqM rs s0 i).m (seqM rs s0 i).gs (seqM rs s0 i).pas (seqM rs s0 i).e (seqM rs s0 i).here=some ((seqM rs s0 steps).m,(seqM rs s0 steps).pas,(seqM rs s0 steps).e):=by
 intro k
 induction k with
 | zero=>
  intro i h1 h2
  have e:i=steps:=by lia
  subst e
  rcases J7 T hc hv h0 i hs with h | h
  ·obtain ⟨p,a,b,c,_⟩:=h
   rw [a]
   unfold Z5
   rw [kz (by lia)]
  ·rw [h.here]
   unfold Z5
   rfl
 | succ k ih=>
  intro i h1 h2
  rcases J7 T hc hv h0 i (by lia) with h | h
  ·have h':=h
   obtain ⟨p,a,b,c,_⟩:=h'
   by_cases e:i=steps
   ·subst e
    rw [a]
    unfold Z5
    rw [kz (by lia)]
   ·obtain ⟨⟨p2,a2,g⟩,_⟩:=z08 T hc hv (by lia) h
    have:=ih (i+1) (by lia) (by lia)
    rw [a2]
    unfold Z5
    rw [kC (by lia),kC (show _=[V.str (Str.ofString "on")] from b),g]
    exact this
  ·rw [Qr h.here steps h1,h.here]
   unfold Z5
   rfl
end
structure Runs (rs:List Row) (kvs:List (Key × V)) (E D:Nat→List V) (N:Nat→Nat):Prop where
 run:∀s,s≤400→runM rs kvs s=some (E s,D s,N s)
 n_le:∀s,s≤400→N s≤s
 on:∀s,s≤400→E s=onE→N s=s
 form:∀s,s≤400→E s=onE∨z03 (E s)
 ends:∀s,s≤400→z03 (E s)→(∀t,s≤t→E t=E s∧D t=D s∧N t=N s)∧E (N s)=E s∧D (N s)=D s∧N (N s)=N s
 sd:∀s t,s≤t→t≤400→D s <+: D t∧N s≤N t
 okd:∀s,s≤400→okVs (D s)∧(D s).length≤s
 zero:E 0=onE∧D 0=[]∧N 0=0
theorem z6g {rs:List Row} {S:Fnd} (T:jN rs S) (hc:Code rs) (hv:∀r∈rs,r.op="push"→okV r.arg=true) {kvs:List (Key × V)} (hk:∀q∈kvs,okV q.2=true) (hk8:kvs.length≤8):∃E D N,Runs rs kvs E D N:=by
 obtain ⟨p0,g0,e0,st0⟩:=Zt T hc (d:=0) 200 0 [] (by have:=hc.hi;lia) T.zero .nil
 have ok0:OkM ⟨[],kvs,[]⟩ 0:=⟨okVs.nil,hk,okVs.nil,ke _,by show kvs.length≤_;lia,ke _⟩
 have h0:Q9 rs S 0 ⟨⟨[],kvs,[]⟩,g0,[],onE,some p0⟩:=⟨p0,rfl,rfl,rfl,ok0,st0⟩
 generalize hs0:(⟨⟨[],kvs,[]⟩,g0,[],onE,some p0⟩:S5)=s0 at h0
 obtain ⟨fin,hf,_⟩:=z0a T (by have:=hc.hi;lia)
 have ok:=J7 T hc hv h0
 refine ⟨fun s=>(seqM rs s0 s).e,fun s=>(seqM rs s0 s).m.sd,fun s=>(seqM rs s0 s).pas.length,⟨fun s hs=>?_,fun s hs=>?_,fun s hs he=>?_,fun s hs=>?_,fun s hs he=>?_,fun s t h1 h2=>z1x T hc hv h0 t h1 (by lia),fun s hs=>?_,by rw [←hs0];exact ⟨rfl,rfl,rfl⟩⟩⟩
 ·unfold runM
  rw [hf]
  dsimp only
  rw [e0]
  dsimp only
  have:=z1P T hc hv h0 (steps:=s) (by lia) 500 0 (by lia) (by lia)
  rw [show seqM rs s0 0=s0 from rfl,←hs0] at this
  have this:Z5 rs s 500 ⟨[],kvs,[]⟩ g0 [] [.str "on"] (some p0)=_:=this
  rw [this,←hs0]
 ·rcases ok s (by lia) with h | h
  ·obtain ⟨p,a,b,c,_⟩:=h
   exact ya c
  ·exact h.len
 ·rcases ok s (by lia) with h | h
  ·obtain ⟨p,a,b,c,_⟩:=h
   exact c
  ·exact absurd he h.e.ne
 ·rcases ok s (by lia) with h | h
  ·obtain ⟨p,a,b,c,_⟩:=h
   exact .inl b
  ·exact .inr h.e
 ·have hh:(seqM rs s0 s).here=none:=by
   rcases ok s (by lia) with h | h
   ·obtain ⟨p,a,b,c,_⟩:=h
    exact absurd b he.ne
   ·exact h.here
  have hb:=z1y T hc hv h0 s (by lia) hh
  refine ⟨fun t ht=>?_,?_⟩
  ·rw [Qr hh t ht]
   exact ⟨rfl,rfl,rfl⟩
  ·show (seqM rs s0 (seqM rs s0 s).pas.length).e=_∧(seqM rs s0 (seqM rs s0 s).pas.length).m.sd=_∧(seqM rs s0 (seqM rs s0 s).pas.length).pas.length=_
   rw [hb]
   exact ⟨rfl,rfl,rfl⟩
 ·rcases ok s (by lia) with h | h
  ·obtain ⟨p,a,b,c,d⟩:=h
   exact ⟨d.ok.sd,d.ok.lsd⟩
  ·exact ⟨h.ok.sd,h.ok.lsd⟩
def Scr (K:ky) (H:Hp) (a:Addr) (xs:List V):Prop:=
 (∃o,H a=some (.frz o (.lst xs)))∨∃(o:Obj) (its:Array Value) (n:Nat),K.lookup a=some o∧o.cls=.type "list"∧o.dict=none∧o.data=.seq its n∧its.size≤sizeLine∧Vals xs its.toList
theorem Scr.sq {K:ky} {H:Hp} {a:Addr} {xs:List V} (h:Scr K H a xs):SqL K H a xs:=by
 rcases h with ⟨o,h⟩ | h
 ·exact .inl (.inr ⟨o,h⟩)
 ·exact .inr h
def z9Y (H H':Hp) (t r m:Addr):Prop:=∀b o,H b=some o→b≠t→b≠r→b≠m→H' b=some o
theorem Scr.keep {K:ky} {H H':Hp} {a:Addr} {xs:List V} (h:Scr K H a xs) (k:∀o u,H a=some (.frz o u)→H' a=some (.frz o u)):Scr K H' a xs:=by
 rcases h with ⟨o,h⟩ | h
 ·exact .inl ⟨o,k _ _ h⟩
 ·exact .inr h
theorem Scr.keep1 {K:ky} {H H':Hp} {a t:Addr} {xs ys:List V} (h:Scr K H a xs) (k:qW H H' t) (ht:H t=some (.lst ys)):Scr K H' a xs:=h.keep fun o u e=>k _ _ e (zC e ht nofun)
noncomputable def j5 (c:Nat) (cells:List Int):List V:=.int (c:Int) :: cells.map V.int
section
def z0c (K:ky):Sp:=fun vs H Q _=>∃(a t:Addr) (ns:List Int) (c:Nat) (cells:List Int) (many:Int),vs=[.ref a,.ref t,.int many]∧Scr K H a (ns.map V.int)∧ns.length≤1000∧cells.length=ns.length∧H t=some (.lst (j5 c cells))∧c≤100000∧1≤many∧many≤1000∧
 ∀(i:Int) (cells':List Int) H',0≤i→i < many→cells'.length=ns.length→H' t=some (.lst (j5 (c+1) cells'))→qW H H' t→Q (.int i) H'
theorem z32:zj ["_law_script","_law_town_here","_law_many","_law_at","_law_left","_law_number"] ["_law_script","_law_town_here","_law_many"] (zd (top 103)):=fsM
theorem z4N {cells:List Int} {i:Int} (h0:0≤i) (h1:i < (cells.length:Int)) (c:Nat):∃z,atI (j5 c cells) (1+i)=some (.int z):=by
 obtain ⟨j,rfl⟩:=yb h0
 have hj:j < cells.length:=by lia
 have e:(1:Int)+(j:Int)=((j+1:Nat):Int):=by lia
 refine ⟨cells[j],?_⟩
 rw [e]
 refine zq ?_
 unfold j5
 rw [List.getElem?_cons_succ,List.getElem?_map,kM hj]
 rfl
theorem z2t {ns:List Int} {i:Int} (h0:0≤i) (h1:i < (ns.length:Int)):∃z,atI (ns.map V.int) i=some (.int z):=by
 obtain ⟨j,rfl⟩:=yb h0
 have hj:j < ns.length:=by lia
 refine ⟨ns[j],zq ?_⟩
 rw [List.getElem?_map,kM hj]
 rfl
theorem z4h {c:Nat} {cells:List Int} {i:Int} (h0:0≤i) (h1:i < (cells.length:Int)) (z:Int):∃j cells',ixN (j5 c cells).length (1+i)=some j∧(j5 c cells).set j (.int z)=j5 c cells'∧cells'.length=cells.length:=by
 obtain ⟨j,rfl⟩:=yb h0
 refine ⟨j+1,cells.set j z,?_,?_,by simp⟩
 ·unfold ixN j5
  rw [kC (by lia),kC (by simp;lia)]
  congr 1
  lia
 ·unfold j5
  rw [List.set_cons_succ,List.map_set]
theorem ix0 {c:Nat} {cells:List Int}:ixN (j5 c cells).length 0=some 0:=by
 unfold ixN j5
 rw [kC (by decide),kC (by simp <;> lia)]
 rfl
theorem z72 (D:zo K mg "_law_draw" (top 103)) (G:Glo mg):FN P w K mg base 1 "_law_draw" ["_law_script","_law_town_here","_law_many"] (z0c K):=by
 refine FN.o D z32 fun f cdv A outer s H vs Q E hr h=>?_
 obtain ⟨a,t,ns,c,cells,many,rfl,hS,hns,hcl,hT,hc,hm1,hm2,q⟩:=h
 have hu:A.units+3 < cLine:=by have:=hr.units0;exact this
 refine ⟨_,z8 (j6 (zJ qV (zP zL (pv 1) zg (fun _ _=>rfl)) zg) (Qb (pv 1) zg jE))
  (z8 (zD (zl (z5L (hr.units0)) (pv 0) (qu z7) (zn _))
   (zc (zm (zJ QD (zJ QF (zJ J9 (zJ J9 (zP zL (pv 1) zg (fun _ _=>rfl)) (zP zL (pv 1) zg (fun _ _=>rfl))) zg) zg) (pv 2)))) zu)
  (z8 (zA (i:=3) z32.nd rfl (Or.inl rfl) (zJ QD (zP zL (pv 1) zg (fun _ _=>rfl)) (zy zQ rfl G.len qt (z6 (pv 0) z7))))
  (z8 (zA (i:=4) z32.nd rfl (Or.inl rfl) (zP zL (pv 1) (zJ qV zg (pv 3)) (fun _ _=>rfl)))
  (z8 (zD (PW.pt (J8 (zl z9u (zP zL (pv 0) (pv 3) (fun _ _=>rfl)) (zJ z1J zg zg) (zn _)) (Q3 (zl z0l (pv 4) zg (zn _)))))
   (z8 (j6 (zJ QF (pv 4) (pv 2)) (Qb (pv 1) (zJ qV zg (pv 3)) jE)) (zc (zm (zJ QD (pv 4) (pv 2))))) zu)
  (z8 (zA (i:=5) z32.nd rfl (Or.inl rfl) (zJ QD (zJ qV (zP zL (pv 0) (pv 3) (fun _ _=>rfl)) (zJ J9 zg (zP zL (pv 1) zg (fun _ _=>rfl)))) zg))
  (z8 (zA (i:=5) z32.nd rfl (Or.inl rfl) (zJ QD (zJ z1J (pv 5) zg) zg))
  (zc (zm (zJ QD (zJ QF (zJ QD (zJ qV (zJ J9 (zJ QF (pv 5) zg) zg) (pv 5)) zg) zg) (pv 2)))))))))),?_⟩
 try dsimp only [L2.cxOf,L2.Cx.nox]
 have hmod:∀x:Int,0≤x % many∧x % many < many:=fun x=>⟨Int.emod_nonneg _ (by lia),Int.emod_lt_of_pos _ (by lia)⟩
 have cdm:CDiv 0 many:=⟨by lia,by lia⟩
 refine ⟨_,rfl,t,_,_,_,rfl,rfl,SqL.of hT,zq (j:=0) rfl,_,_,rfl,rfl,?_⟩
 refine ⟨_,rfl,t,_,_,0,rfl,rfl,hT,ix0,?_⟩
 have e1:(j5 c cells).set 0 (V.int ((c:Int)+1))=j5 (c+1) cells:=by
  unfold j5
  rw [List.set_cons_zero]
  rfl
 rw [e1]
 generalize hH1:upd H t (.lst (j5 (c+1) cells))=H1
 have hT1:H1 t=some (.lst (j5 (c+1) cells)):=by rw [←hH1];exact zb
 have k1:qW H H1 t:=fun b o e hb=>by rw [←hH1,zf hb];exact e
 have hS1:=hS.keep1 k1 hT
 refine ⟨_,rfl,by show 0≤sizeLine;decide,fun p hp=>?_⟩
 have s2:Same H1 (upd H1 p (.lst [])):=zh hp _
 have hT2:=s2 _ _ hT1
 have hS2:Scr K (upd H1 p (.lst [])) a (ns.map V.int):=hS1.keep fun o u e=>s2 _ _ e
 have k2:qW H (upd H1 p (.lst [])) t:=fun b o e hb=>s2 _ _ (k1 b o e hb)
 generalize hH2:upd H1 p (.lst [])=H2 at *
 have hp2:H2 p=some (.lst []):=by rw [←hH2];exact zb
 refine ⟨a,p,_,rfl,rfl,hS2.sq,SqL.of hp2,_,rfl,?_⟩
 refine ite2 (fun ce=>?_) (fun ce=>?_)
 ·refine ⟨_,rfl,t,_,_,_,rfl,rfl,SqL.of hT2,zq (j:=0) rfl,_,rfl,t,_,_,_,rfl,rfl,SqL.of hT2,zq (j:=0) rfl,_,_,rfl,rfl,.inl ⟨by lia,by lia⟩,_,_,rfl,rfl,.inr ⟨by decide,by decide⟩,_,_,rfl,rfl,⟨by decide,by decide⟩,_,rfl,_,_,rfl,rfl,by lia,?_⟩
  exact q _ cells H2 (hmod _).1 (hmod _).2 hcl hT2 k2
 ·have hne:ns≠[]:=fun z=>ce (by rw [z];rfl)
  have hpos:0 < ns.length:=List.length_pos_iff.mpr hne
  refine ⟨_,rfl,t,_,_,_,rfl,rfl,SqL.of hT2,zq (j:=0) rfl,_,rfl,a,_,rfl,.inl hS2.sq,_,_,rfl,rfl,by rw [kj];lia,?_⟩
  rw [kj]
  have a0:0≤((c+1:Nat):Int) % (ns.length:Int):=Int.emod_nonneg _ (by lia)
  have a1:((c+1:Nat):Int) % (ns.length:Int) < (ns.length:Int):=Int.emod_lt_of_pos _ (by lia)
  obtain ⟨z,hz⟩:=z4N (cells:=cells) a0 (by rw [hcl];exact a1) (c+1)
  obtain ⟨y,hy⟩:=z2t (ns:=ns) a0 a1
  refine ⟨_,rfl,_,rfl,_,_,rfl,rfl,t,_,_,_,rfl,rfl,SqL.of hT2,hz,?_⟩
  refine ⟨_,rfl,_,rfl,a,_,_,_,rfl,rfl,hS2.sq,hy,_,_,rfl,rfl,⟨by decide,by decide,by decide⟩,_,_,rfl,rfl,_,rfl,?_⟩
  have rest:tSeq (tAsg (tOp (rI (fun _ j=>0 < j) fun i j=>.int (i % j)) (tOp (rI0 fun i j=>.int (i+j)) (tOp (rIxL K) (tVar 0) (tVar 3)) (tOp (rI CMul fun i j=>.int (i * j)) (tC (.int 104729)) (tOp (rIxL K) (tVar 1) (tC (.int 0))))) (tC (.int 4294967291))) (z3C 5))
    (tSeq (tAsg (tOp (rI (fun _ j=>0 < j) fun i j=>.int (i % j)) (tOp (rI CPow fun i j=>.int (i ^ j.toNat)) (tVar 5) (tC (.int 5))) (tC (.int 4294967279))) (z3C 5))
    (tRet (tOp (rI (fun _ j=>0 < j) fun i j=>.int (i % j)) (tOp (rI CDiv fun i j=>.int (i / j)) (tOp (rI (fun _ j=>0 < j) fun i j=>.int (i % j)) (tOp (rI0 fun i j=>.int (i+j)) (tOp (rI CMul fun i j=>.int (i * j)) (tOp (rI CDiv fun i j=>.int (i / j)) (tVar 5) (tC (.int 64))) (tC (.int 69621))) (tVar 5)) (tC (.int 4294967231))) (tC (.int 8))) (tVar 2))))
    { nx:=fun _ H'=>Q .non H',rt:=Q } [some (.ref a),some (.ref t),some (.int many),some (.int (((c+1:Nat):Int) % (ns.length:Int))),some (.int z),none] H2:=by
   refine ⟨_,rfl,_,rfl,a,_,_,_,rfl,rfl,hS2.sq,hy,_,rfl,t,_,_,_,rfl,rfl,SqL.of hT2,zq (j:=0) rfl,_,_,rfl,rfl,.inl ⟨by decide,by decide⟩,_,_,rfl,rfl,_,_,rfl,rfl,(by show (0:Int) < 4294967291;decide),?_⟩
   have b0:0≤(y+104729 * ((c+1:Nat):Int)) % 4294967291:=Int.emod_nonneg _ (by decide)
   have b1:(y+104729 * ((c+1:Nat):Int)) % 4294967291 < 4294967291:=Int.emod_lt_of_pos _ (by decide)
   refine ⟨_,rfl,_,_,rfl,rfl,⟨by decide,by decide,?_⟩,_,_,rfl,rfl,(by show (0:Int) < 4294967279;decide),?_⟩
   ·show ((y+104729 * ((c+1:Nat):Int)) % 4294967291).natAbs < 2 ^ 64
    lia
   refine ⟨_,rfl,_,_,rfl,rfl,⟨by decide,by decide⟩,_,_,rfl,rfl,.inr ⟨by decide,by decide⟩,_,rfl,_,_,rfl,rfl,_,_,rfl,rfl,(by show (0:Int) < 4294967231;decide),_,_,rfl,rfl,⟨by decide,by decide⟩,_,rfl,_,_,rfl,rfl,by lia,?_⟩
   exact q _ cells H2 (hmod _).1 (hmod _).2 hcl hT2 k2
  refine ite2 (fun c1=>?_) (fun c1=>?_)
  ·refine ⟨_,rfl,_,_,rfl,rfl,_,rfl,?_⟩
   refine ite2 (fun c2=>?_) (fun c2=>rest)
   obtain ⟨j,cells',hj,hset,hl'⟩:=z4h (c:=c+1) (cells:=cells) a0 (by rw [hcl];exact a1) (z / many)
   refine ⟨_,rfl,_,rfl,_,_,rfl,rfl,⟨by lia,by lia⟩,?_⟩
   refine ⟨_,rfl,_,rfl,_,_,rfl,rfl,t,_,_,j,rfl,rfl,hT2,hj,?_⟩
   rw [hset]
   refine ⟨_,rfl,_,rfl,_,_,rfl,rfl,by lia,?_⟩
   exact q _ cells' _ (hmod _).1 (hmod _).2 (hl'.trans hcl) zb fun b o e hb=>by rw [zf hb];exact k2 b o e hb
  ·exact iteF rest
end
def FNd (P:Program) (w:World) (K:ky) (mg:Str→Option Value) (base:Heap) (k:Nat) (name:Str) (ps:List Str) (dvs:List V) (sp:Sp):Prop:=
 ∃f fd ds,mg name=some (.ref f)∧PySem.W.keepIn K (.ref f)=true∧Vals dvs ds∧Zd K fd ps ds∧FnOk P w K mg base CX0 k f fd ps sp
def z4b (K:ky) (mg:Str→Option Value) (name:Str) (st:Stmt):Prop:=
 ∃(f T:Addr) (oc kV doc pm cdv ct:Value) (od an:Option Addr) (osl:Array (Option Value)) (to:Obj) (n:Nat),mg name=some (.ref f)∧PySem.W.keepIn K (.ref f)=true∧
  K.lookup f=some ⟨oc,od,.func (PySem.W.fnOf name name (qz st) (zN st) (zd st) (.ref T) kV doc pm an cdv ct),osl⟩∧PySem.W.codeIn K cdv name=true∧K.lookup T=some to∧to.data=.seq #[Value.none] n
section
variable {X:Cx} {k:Nat} {name:Str} {ps:List Str} {dvs:List V} {sp:Sp} {p pos:Pos} {e:Expr} {es:List Expr} {t:TA}
theorem qe (F:FNd X.prog X.w X.K X.mg X.base k name ps dvs sp) (hr:Room k X.A) (hg:Gl X name) (ha:PA X (e :: es) t) (hdb:autoParam ((name == ("__debug__":Str))=false) aR._auto_2)
  (he:autoParam (starEach (e :: es) X.env=(false,eval e X.env) :: starEach es X.env) aR._auto_1) (hpl:autoParam ((backTo pos (starEach es X.env)).any (·.1)=false) aR._auto_1):
  PE X (.Call (.Name name p) (e :: es) [] pos) (z2I sp dvs E0 t):=by
 obtain ⟨f,fd,ds,a,b,v,c,d⟩:=F
 exact z3b d hr hg a b c v z2e ha hdb he hpl
end
section
def z0W:Sp:=fun vs H Q _=>∃(r:Addr) (op:Str) (x:V) (ys:List V),vs=[.ref r,.str op,x]∧H r=some (.lst ys)∧ys.length≤100000∧
 ∀a,H a=none→Q .non (upd (upd H a (.tup [.str op,x,.int (10+(ys.length:Int) / 2)])) r (.lst (ys++[.ref a])))
theorem z9g:zj ["_law_rows","_law_op","_law_arg"] ["_law_rows","_law_op","_law_arg"] (zd (top 107)):=fsM
theorem JG {n:Nat} (h:n≤100000):n < sizeLine:=Nat.lt_of_le_of_lt h (by decide)
theorem z8s (D:z4b K mg "_law_put" (top 107)) (G:Glo mg):FNd P w K mg base 1 "_law_put" ["_law_rows","_law_op","_law_arg"] [] z0W∧FNd P w K mg base 1 "_law_put" ["_law_rows","_law_op","_law_arg"] [.non] z0W:=by
 obtain ⟨f,T,oc,kV,doc,pm,cdv,ct,od,an,osl,to,n,m,kp,lk,hcd,lT,hT⟩:=D
 have ok:FnOk P w K mg base CX0 1 f (PySem.W.fnOf "_law_put" "_law_put" (qz (top 107)) (zN (top 107)) (zd (top 107)) (.ref T) kV doc pm an cdv ct) ["_law_rows","_law_op","_law_arg"] z0W:=by
  refine z8v lk hcd z9g (fun vs H Q E h=>by obtain ⟨r,op,x,ys,rfl,_⟩:=h;rfl) (fun A outer s H vs Q E hr h=>?_)
  obtain ⟨r,op,x,ys,rfl,hr1,hl,q⟩:=h
  refine ⟨_,PSs.nox (zc (zk (qO (pv 0) (z6 (zE (z6 (pv 1) (z6 (pv 2) (z6 (zJ qV zg (zJ QF (zy zQ rfl G.len qt (z6 (pv 0) z7)) zg)) z7)))) z7)))),?_⟩
  refine ⟨_,rfl,.inl ⟨rfl,_,SqL.of hr1⟩,_,rfl,_,rfl,_,rfl,r,_,rfl,.inl (SqL.of hr1),_,_,rfl,rfl,⟨by decide,by decide⟩,_,_,rfl,rfl,by show 3≤sizeLine;decide,fun a ha=>?_⟩
  have nra:r≠a:=ze hr1 ha
  exact ⟨r,ys,.ref a,rfl,rfl,by rw [zf nra];exact hr1,JG hl,q a ha⟩
 have b3:Zd K (PySem.W.fnOf "_law_put" "_law_put" (qz (top 107)) (zN (top 107)) (zd (top 107)) (.ref T) kV doc pm an cdv ct) ["_law_rows","_law_op","_law_arg"] []:=fun s us X hl=>by
  match us,hl with
  | [u1,u2,u3],_=>exact BindsTo.of_defaults (T:=T) (o:=to) (items:=#[Value.none]) rfl (X _ _ lT) hT rfl rfl
 have b2:Zd K (PySem.W.fnOf "_law_put" "_law_put" (qz (top 107)) (zN (top 107)) (zd (top 107)) (.ref T) kV doc pm an cdv ct) ["_law_rows","_law_op","_law_arg"] [.none]:=fun s us X hl=>by
  have hl':us.length=2:=by simpa using hl
  match us,hl' with
  | [u1,u2],_=>exact BindsTo.of_defaults (T:=T) (o:=to) (items:=#[Value.none]) rfl (X _ _ lT) hT rfl rfl
 exact ⟨⟨f,_,[],m,kp,.nil,b3,ok⟩,⟨f,_,[.none],m,kp,.cons rfl .nil,b2,ok⟩⟩
noncomputable def Zk (k:Nat):List V:=(List.range k).map fun i:Nat=>V.int (i:Int)
theorem QI (k:Nat):Zk k++[.int (k:Int)]=Zk (k+1):=by
 unfold Zk
 rw [List.range_succ,kL]
 rfl
theorem Q5 (k:Nat):(Zk k).length=k:=by unfold Zk;simp
def spMk:Sp:=fun vs H Q _=>∃(m:Addr) (k:Nat),vs=[.ref m]∧H m=some (.lst (Zk k))∧k≤100000∧Q (.int (k:Int)) (upd H m (.lst (Zk (k+1))))
theorem z9f:zj ["_law_marks"] ["_law_marks"] (zd (top 108)):=fsM
theorem z9N (D:zo K mg "_law_mark" (top 108)) (G:Glo mg):FN P w K mg base 1 "_law_mark" ["_law_marks"] spMk:=by
 refine FN.o D z9f fun f cdv A outer s H vs Q E hr h=>?_
 obtain ⟨m,k,rfl,hm,hk,q⟩:=h
 refine ⟨_,z8 (zk (qO (pv 0) (z6 (zy zQ rfl G.len qt (z6 (pv 0) z7)) z7)))
  (zc (zm (zP zL (pv 0) (Z1 jb zg) (fun _ _=>rfl)))),?_⟩
 try dsimp only [L2.cxOf,L2.Cx.nox]
 refine ⟨_,rfl,.inl ⟨rfl,_,SqL.of hm⟩,_,rfl,m,_,rfl,.inl (SqL.of hm),m,_,_,rfl,rfl,hm,by rw [Q5];exact JG hk,?_⟩
 rw [Q5,QI]
 refine ⟨_,rfl,1,rfl,m,_,_,.int (k:Int),rfl,rfl,SqL.of zb,?_,q⟩
 rw [←QI]
 exact z02 _ _
def J5 (K:ky):Sp:=fun vs H Q _=>∃(a t p:Addr) (ns:List Int) (c:Nat) (cells:List Int) (xs:List V),vs=[.ref a,.ref t,.ref p]∧Scr K H a (ns.map V.int)∧ns.length≤1000∧cells.length=ns.length∧H t=some (.lst (j5 c cells))∧c≤100000∧H p=some (.lst xs)∧p≠t∧1≤xs.length∧xs.length≤1000∧
 ∀(v:V) (cells':List Int) H',v∈xs→cells'.length=ns.length→H' t=some (.lst (j5 (c+1) cells'))→qW H H' t→Q v H'
theorem z9j:zj ["_law_script","_law_town_here","_law_some"] ["_law_script","_law_town_here","_law_some"] (zd (top 104)):=fsM
theorem z6P (D:zo K mg "_law_pick" (top 104)) (G:Glo mg) (FD:FN P w K mg base 1 "_law_draw" ["_law_script","_law_town_here","_law_many"] (z0c K)):FN P w K mg base 2 "_law_pick" ["_law_script","_law_town_here","_law_some"] (J5 K):=by
 refine FN.o D z9j fun f cdv A outer s H vs Q E hr h=>?_
 obtain ⟨a,t,p,ns,c,cells,xs,rfl,hS,hns,hcl,hT,hc,hp,hpt,hx1,hx2,q⟩:=h
 refine ⟨_,zc (zm (zP zL (pv 2) (zp FD hr rfl (z6 (pv 0) (z6 (pv 1) (z6 (zy zQ rfl G.len qt (z6 (pv 2) z7)) z7)))) (fun _ _=>rfl))),?_⟩
 try dsimp only [L2.cxOf,L2.Cx.nox]
 refine ⟨_,rfl,_,rfl,_,rfl,_,rfl,p,_,rfl,.inl (SqL.of hp),a,t,ns,c,cells,_,rfl,hS,hns,hcl,hT,hc,by lia,by lia,fun i cells' H' h0 h1 hl' hT' k'=>?_⟩
 obtain ⟨j,rfl⟩:=yb h0
 have hj:j < xs.length:=by lia
 exact ⟨p,_,_,xs[j],rfl,rfl,SqL.of (k' p _ hp hpt),zq (kM hj),q _ cells' H' (List.getElem_mem hj) hl' hT' k'⟩
def z11 (K:ky):Sp:=fun vs H Q _=>∃(a t:Addr) (ns:List Int) (c:Nat) (cells:List Int),vs=[.ref a,.ref t]∧Scr K H a (ns.map V.int)∧ns.length≤1000∧cells.length=ns.length∧H t=some (.lst (j5 c cells))∧c≤100000∧
 ∀(v:V) (cells':List Int) H',Z0 v=true→okV v=true→cells'.length=ns.length→H' t=some (.lst (j5 (c+1) cells'))→qW H H' t→Q v H'
theorem z9h:zj ["_law_script","_law_town_here"] ["_law_script","_law_town_here"] (zd (top 106)):=fsM
theorem z0G:∀v∈([.int 0,.int 1,.int 2,.int 3,.int (-4),.int 7,.int (10 ^ (9:Int).toNat),.bl true,.bl false,.non,.str "Oops",.str "Zero"]:List V),Z0 v=true∧okV v=true:=by trivial
theorem z57 (D:zo K mg "_law_const" (top 106)) (FP:FN P w K mg base 2 "_law_pick" ["_law_script","_law_town_here","_law_some"] (J5 K)):FN P w K mg base 3 "_law_const" ["_law_script","_law_town_here"] (z11 K):=by
 refine FN.o D z9h fun f cdv A outer s H vs Q E hr h=>?_
 obtain ⟨a,t,ns,c,cells,rfl,hS,hns,hcl,hT,hc,q⟩:=h
 refine ⟨_,zc (zm (zp FP hr rfl (z6 (pv 0) (z6 (pv 1) (z6 (qu (z6 zg (z6 zg (z6 zg (z6 zg (z6 (Z1 jb zg) (z6 zg (z6 (zJ z1J zg zg) (z6 JC (z6 JC (z6 qc (z6 zi (z6 zi z7))))))))))))) z7))))),?_⟩
 try dsimp only [L2.cxOf,L2.Cx.nox]
 refine ⟨_,rfl,_,rfl,4,rfl,_,_,rfl,rfl,⟨by decide,by decide,by decide⟩,by show 12≤sizeLine;decide,fun p hp=>?_⟩
 have s1:=zh hp (.lst [.int 0,.int 1,.int 2,.int 3,.int (-4),.int 7,.int (10 ^ (9:Int).toNat),.bl true,.bl false,.non,.str "Oops",.str "Zero"])
 refine ⟨a,t,p,ns,c,cells,_,rfl,hS.keep fun o u e=>s1 _ _ e,hns,hcl,s1 _ _ hT,hc,zb,(ze hT hp).symm,by show 1≤12;decide,by show 12≤1000;decide,fun v cells' H' hv hl' hT' k'=>?_⟩
 exact q v cells' H' (z0G v hv).1 (z0G v hv).2 hl' hT' fun b o e hb=>k' b o (s1 _ _ e) hb
end
structure Pl where
 a:Addr
 t:Addr
 r:Addr
 m:Addr
 ns:List Int
structure GS (K:ky) (H:Hp) (p:Pl) (c:Nat) (rs:List Row) (k:Nat):Prop where
 scr:Scr K H p.a (p.ns.map V.int)
 nsl:p.ns.length≤1000
 town:∃cells:List Int,cells.length=p.ns.length∧H p.t=some (.lst (j5 c cells))
 rows:∃as,H p.r=some (.lst (as.map V.ref))∧zS H as rs
 marks:H p.m=some (.lst (Zk k))
 tr:p.t≠p.r
 tm:p.t≠p.m
 rm:p.r≠p.m
structure Step (K:ky) (H H':Hp) (p:Pl) (c:Nat) (rs:List Row) (k:Nat) (c':Nat) (new:List Row) (k' B:Nat):Prop where
 gs:GS K H' p c' (rs++new) k'
 c1:c≤c'
 c2:c'≤c+B
 n:new.length≤B
 k1:k≤k'
 k2:k'≤k+B
 keep:z9Y H H' p.t p.r p.m
section
variable {K:ky} {H H' H1 H2:Hp} {p:Pl} {c c1 c2 k k1 k2 B B1 B2:Nat} {rs n1 n2:List Row}
theorem Step.trans (s:Step K H H1 p c rs k c1 n1 k1 B1) (u:Step K H1 H2 p c1 (rs++n1) k1 c2 n2 k2 B2):Step K H H2 p c rs k c2 (n1++n2) k2 (B1+B2) where
 gs:=by have:=u.gs;rw [kZ] at this;exact this
 c1:=ku s.c1 u.c1
 c2:=by have:=s.c2;have:=u.c2;lia
 n:=by have:=s.n;have:=u.n;rw [kl];lia
 k1:=ku s.k1 u.k1
 k2:=by have:=s.k2;have:=u.k2;lia
 keep:=fun b o e h1 h2 h3=>u.keep b o (s.keep b o e h1 h2 h3) h1 h2 h3
theorem Step.more (s:Step K H H1 p c rs k c1 n1 k1 B1) (h:B1≤B2):Step K H H1 p c rs k c1 n1 k1 B2:=
 ⟨s.gs,s.c1,by have:=s.c2;lia,by have:=s.n;lia,s.k1,by have:=s.k2;lia,s.keep⟩
theorem GS.same (g:GS K H p c rs k) (s:Same H H'):GS K H' p c rs k:=by
 obtain ⟨cells,h1,h2⟩:=g.town
 obtain ⟨as,h3,h4⟩:=g.rows
 exact ⟨g.scr.keep fun _ _ e=>s _ _ e,g.nsl,⟨cells,h1,s _ _ h2⟩,⟨as,s _ _ h3,h4.same s⟩,s _ _ g.marks,g.tr,g.tm,g.rm⟩
theorem GS.draw (g:GS K H p c rs k) {cells':List Int} (hl:cells'.length=p.ns.length) (hT:H' p.t=some (.lst (j5 (c+1) cells'))) (kp:qW H H' p.t):Step K H H' p c rs k (c+1) [] k 1:=by
 obtain ⟨cells,h1,h2⟩:=g.town
 obtain ⟨as,h3,h4⟩:=g.rows
 refine ⟨?_,by lia,by lia,by simp,ke _,by lia,fun b o e h1 _ _=>kp b o e h1⟩
 rw [kY]
 exact ⟨g.scr.keep1 kp h2,g.nsl,⟨cells',hl,hT⟩,⟨as,kp _ _ h3 g.tr.symm,h4.keep fun b xs e=>kp b _ e (zC e h2 nofun)⟩,kp _ _ g.marks g.tm.symm,g.tr,g.tm,g.rm⟩
theorem GS.put (g:GS K H p c rs k) {x:Addr} (hx:H x=none) {op:Str} {v:V} {as:List Addr} (h3:H p.r=some (.lst (as.map V.ref))) (h4:zS H as rs) {l:Int}:
  Step K H (upd (upd H x (.tup [.str op,v,.int l])) p.r (.lst (as.map V.ref++[.ref x]))) p c rs k c [⟨op,v,l⟩] k 1:=by
 obtain ⟨cells,h1,h2⟩:=g.town
 have nr:∀b o,H b=some o→b≠x:=fun b o e=>ze e hx
 have kp:∀b o,H b=some o→b≠p.r→(upd (upd H x (.tup [.str op,v,.int l])) p.r (.lst (as.map V.ref++[.ref x]))) b=some o:=fun b o e hb=>by rw [zf hb,zf (nr b o e)];exact e
 have xr:x≠p.r:=(nr _ _ h3).symm
 refine ⟨⟨g.scr.keep fun o u e=>kp _ _ e (zC e h3 nofun),g.nsl,⟨cells,h1,kp _ _ h2 g.tr⟩,⟨as++[x],by rw [kL];exact zb,?_⟩,kp _ _ g.marks g.rm.symm,g.tr,g.tm,g.rm⟩,ke _,by lia,by simp,ke _,by lia,fun b o e _ h2 _=>kp b o e h2⟩
 refine zS.append (h4.keep fun b xs e=>kp b _ e (zC e h3 nofun)) (.cons ?_ .nil)
 rw [zf xr,zb]
 rfl
theorem GS.mk' (g:GS K H p c rs k):Step K H (upd H p.m (.lst (Zk (k+1)))) p c rs k c [] (k+1) 1:=by
 obtain ⟨cells,h1,h2⟩:=g.town
 obtain ⟨as,h3,h4⟩:=g.rows
 have kp:∀b o,H b=some o→b≠p.m→(upd H p.m (.lst (Zk (k+1)))) b=some o:=fun b o e hb=>by rw [zf hb];exact e
 refine ⟨?_,ke _,by lia,by simp,by lia,ke _,fun b o e _ _ h3=>kp b o e h3⟩
 rw [kY]
 exact ⟨g.scr.keep fun o u e=>kp _ _ e (zC e g.marks nofun),g.nsl,⟨cells,h1,kp _ _ h2 g.tm⟩,⟨as,kp _ _ h3 g.rm,h4.keep fun b xs e=>kp b _ e (zC e g.marks nofun)⟩,zb,g.tr,g.tm,g.rm⟩
theorem jR (g:GS K H p c rs k) (hc:c≤100000) {many:Int} (h1:1≤many) (h2:many≤1000) {Q:VK} {E:XK} (h:∀i H',0≤i→i < many→Step K H H' p c rs k (c+1) [] k 1→Q (.int i) H'):z0c K [.ref p.a,.ref p.t,.int many] H Q E:=by
 obtain ⟨cells,e1,e2⟩:=g.town
 exact ⟨p.a,p.t,p.ns,c,cells,many,rfl,g.scr,g.nsl,e1,e2,hc,h1,h2,fun i cells' H' a b l t kp=>h i H' a b (g.draw l t kp)⟩
theorem jQ (g:GS K H p c rs k) (hc:c≤100000) {q:Addr} (hq:H q=none) {xs:List V} (h1:1≤xs.length) (h2:xs.length≤1000) {Q:VK} {E:XK} (h:∀v H',v∈xs→Step K H H' p c rs k (c+1) [] k 1→Q v H'):
  J5 K [.ref p.a,.ref p.t,.ref q] (upd H q (.lst xs)) Q E:=by
 have s1:=zh hq (.lst xs)
 have g1:=g.same s1
 obtain ⟨cells,e1,e2⟩:=g1.town
 obtain ⟨cells0,_,e20⟩:=g.town
 exact ⟨p.a,p.t,q,p.ns,c,cells,xs,rfl,g1.scr,g1.nsl,e1,e2,hc,zb,(ze e20 hq).symm,h1,h2,fun v cells' H' hv l t kp=>h v H' hv (g.draw l t fun b o e hb=>kp b o (s1 _ _ e) hb)⟩
theorem z4n (g:GS K H p c rs k) (hc:c≤100000) {Q:VK} {E:XK} (h:∀v H',Z0 v=true→okV v=true→Step K H H' p c rs k (c+1) [] k 1→Q v H'):z11 K [.ref p.a,.ref p.t] H Q E:=by
 obtain ⟨cells,e1,e2⟩:=g.town
 exact ⟨p.a,p.t,p.ns,c,cells,rfl,g.scr,g.nsl,e1,e2,hc,fun v cells' H' hv ho l t kp=>h v H' hv ho (g.draw l t kp)⟩
theorem qb (g:GS K H p c rs k) (hl:rs.length≤100000) {op:Str} {v:V} {Q:VK} {E:XK} (h:∀H',Step K H H' p c rs k c [⟨op,v,10+(rs.length:Int) / 2⟩] k 1→Q .non H'):z0W [.ref p.r,.str op,v] H Q E:=by
 obtain ⟨as,h3,h4⟩:=g.rows
 have e:(as.map V.ref).length=rs.length:=by rw [kj];exact h4.len
 refine ⟨p.r,op,v,_,rfl,h3,by lia,fun x hx=>?_⟩
 rw [e]
 exact h _ (g.put hx h3 h4)
theorem Jv (g:GS K H p c rs k) (hk:k≤100000) {Q:VK} {E:XK} (h:∀H',Step K H H' p c rs k c [] (k+1) 1→Q (.int (k:Int)) H'):spMk [.ref p.m] H Q E:=⟨p.m,k,rfl,g.marks,hk,h _ g.mk'⟩
end
def RowG (r:Row):Prop:=∃s,qa r.op=some s∧0≤r.line∧r.line≤9999∧(r.op="push"→okV r.arg=true)∧((s="mark"∧∃m:Nat,r.arg=.int (m:Int))∨(s≠"mark"∧jj s r.arg=true))
noncomputable def JM (m:Nat) (r:Row):Bool:=decide (r.op="label")&&decide (r.arg=.int (m:Int))
noncomputable def JL (m:Nat) (r:Row):Bool:=decide (qa r.op=some ("mark":Str))&&decide (r.op≠"label")&&decide (r.arg=.int (m:Int))
noncomputable def lab (m:Nat) (l:List Row):Nat:=l.countP (JM m)
noncomputable def use (m:Nat) (l:List Row):Nat:=l.countP (JL m)
theorem zY (m:Nat) (a b:List Row):lab m (a++b)=lab m a+lab m b:=List.countP_append
theorem Zn (m:Nat) (a b:List Row):use m (a++b)=use m a+use m b:=List.countP_append
structure Good (k k':Nat) (l:List Row):Prop where
 row:∀r∈l,RowG r
 lab1:∀m,lab m l≤1
 labI:∀m,lab m l≠0→k≤m∧m < k'
 useI:∀m,use m l≠0→lab m l≠0
 labA:∀m,k≤m→m < k'→lab m l≠0
theorem Good.nil (k:Nat):Good k k []:=⟨(fun _ h=>by cases h),fun _=>Nat.zero_le _,fun _ h=>absurd rfl h,fun _ h=>absurd rfl h,fun _ _ _=>by lia⟩
theorem Good.app {k k1 k2:Nat} {a b:List Row} (x:Good k k1 a) (y:Good k1 k2 b) (h1:k≤k1) (h2:k1≤k2):Good k k2 (a++b):=by
 refine ⟨fun r hr=>(kW.mp hr).elim (x.row r) (y.row r),fun m=>?_,fun m h=>?_,fun m h=>?_,fun m ha hb=>?_⟩
 ·have:=x.lab1 m;have:=y.lab1 m;have:=x.labI m;have:=y.labI m
  rw [zY];lia
 ·have:=x.labI m;have:=y.labI m
  rw [zY] at h;lia
 ·have:=x.useI m;have:=y.useI m
  rw [Zn] at h
  rw [zY];lia
 ·have:=x.labA m;have:=y.labA m
  rw [zY];lia
def Bare (op:Str) (v:V):Prop:=∃s,qa op=some s∧s≠"mark"∧jj s v=true∧(op="push"→okV v=true)
theorem Bare.noLab {op:Str} {v:V} (h:Bare op v) (m:Nat) (l:Int):lab m [⟨op,v,l⟩]=0:=by
 obtain ⟨s,hs,hm,_⟩:=h
 have:op≠"label":=fun z=>hm (by rw [z,Zg] at hs;exact (kD hs).symm)
 unfold lab
 rw [List.countP_singleton]
 have:JM m ⟨op,v,l⟩=false:=by unfold JM;simp [this]
 rw [this]
 rfl
theorem Bare.noUse {op:Str} {v:V} (h:Bare op v) (m:Nat) (l:Int):use m [⟨op,v,l⟩]=0:=by
 obtain ⟨s,hs,hm,_⟩:=h
 unfold use
 rw [List.countP_singleton]
 have:JL m ⟨op,v,l⟩=false:=by
  unfold JL
  rw [hs]
  have:¬(some s=some ("mark":Str)):=fun z=>hm (kD z)
  simp [this]
 rw [this]
 rfl
theorem Bare.rowG {op:Str} {v:V} (h:Bare op v) {l:Int} (h0:0≤l) (h1:l≤9999):RowG ⟨op,v,l⟩:=by
 obtain ⟨s,hs,hm,hf,hp⟩:=h
 exact ⟨s,hs,h0,h1,hp,.inr ⟨hm,hf⟩⟩
theorem Bare.good {op:Str} {v:V} (h:Bare op v) {l:Int} (h0:0≤l) (h1:l≤9999) (k:Nat):Good k k [⟨op,v,l⟩]:=
 ⟨fun r hr=>by rw [ko.mp hr];exact h.rowG h0 h1,fun m=>by rw [h.noLab];exact Nat.zero_le _,fun m z=>absurd (h.noLab m l) z,fun m z=>absurd (h.noUse m l) z,fun m _ _=>by lia⟩
def Uses (op:Str):Prop:=qa op=some ("mark":Str)∧op≠"label"
theorem Uses.noLab {op:Str} (h:Uses op) (m:Nat) (v:V) (l:Int):lab m [⟨op,v,l⟩]=0:=by
 unfold lab
 rw [List.countP_singleton]
 have:JM m ⟨op,v,l⟩=false:=by unfold JM;simp [h.2]
 rw [this]
 rfl
noncomputable def ind (m j:Nat):Nat:=if m=j then 1 else 0
theorem qi (m j:Nat):(m=j∧ind m j=1)∨(m≠j∧ind m j=0):=by
 unfold ind
 by_cases e:m=j <;> simp [e]
theorem Uses.use {op:Str} (h:Uses op) (m j:Nat) (l:Int):use m [⟨op,.int (j:Int),l⟩]=ind m j:=by
 unfold My.use ind
 rw [List.countP_singleton]
 have:JL m ⟨op,.int (j:Int),l⟩=decide (m=j):=by
  unfold JL
  rw [h.1]
  have:(V.int (j:Int)=V.int (m:Int))↔m=j:=⟨fun z=>by injection z with z;lia,fun z=>by rw [z]⟩
  simp [h.2,this]
 rw [this]
 by_cases e:m=j <;> simp [e]
theorem Uses.rowG {op:Str} (h:Uses op) {j:Nat} {l:Int} (h0:0≤l) (h1:l≤9999):RowG ⟨op,.int (j:Int),l⟩:=⟨"mark",h.1,h0,h1,fun z=>absurd (show qa "push"=some ("mark":Str) from (show op="push" from z)▸h.1) (by trivial),.inl ⟨rfl,j,rfl⟩⟩
theorem ql (m j:Nat) (l:Int):lab m [⟨"label",.int (j:Int),l⟩]=ind m j:=by
 unfold lab ind
 rw [List.countP_singleton]
 have:JM m ⟨"label",.int (j:Int),l⟩=decide (m=j):=by
  unfold JM
  have:(V.int (j:Int)=V.int (m:Int))↔m=j:=⟨fun z=>by injection z with z;lia,fun z=>by rw [z]⟩
  simp [this]
 rw [this]
 by_cases e:m=j <;> simp [e]
theorem Q0 (m:Nat) (v:V) (l:Int):use m [⟨"label",v,l⟩]=0:=by
 unfold use
 rw [List.countP_singleton]
 have:JL m ⟨"label",v,l⟩=false:=by unfold JL;simp
 rw [this]
 rfl
theorem ja {j:Nat} {l:Int} (h0:0≤l) (h1:l≤9999):RowG ⟨"label",.int (j:Int),l⟩:=⟨"mark",Zg,h0,h1,fun z=>absurd z (show ("label":Str)≠"push" by trivial),.inl ⟨rfl,j,rfl⟩⟩
theorem Ty.cast {δ δ':Int} {su:Bool} {k k':Nat} {l:List Row} (x:Ty δ su k k' l) (h:δ=δ'):Ty δ' su k k' l:=h▸x
noncomputable def bV:Nat→Nat
 | 0=>3
 | d+1=>2 * bV d+25
theorem Jn:∀d,3≤bV d
 | 0=>ke _
 | d+1=>by have:=Jn d;show 3≤2 * bV d+25;lia
theorem qk (m:Nat):lab m []=0:=rfl
theorem ZZ (m:Nat):use m []=0:=rfl
def AllG (l:List Row):Prop:=∀r∈l,RowG r
theorem AllG.nil:AllG []:=fun _ h=>by cases h
theorem AllG.app {a b:List Row} (x:AllG a) (y:AllG b):AllG (a++b):=fun r hr=>(kW.mp hr).elim (x r) (y r)
theorem AllG.one {r:Row} (h:RowG r):AllG [r]:=fun x hx=>by rw [ko.mp hx];exact h
theorem Qg:Uses "try":=⟨by trivial,by trivial⟩
theorem qw:Uses "jump":=⟨by trivial,by trivial⟩
theorem z0R:Uses "iffalse":=⟨by trivial,by trivial⟩
theorem z8X:Uses "iftrue":=⟨by trivial,by trivial⟩
theorem z8V:Uses "ortrue":=⟨by trivial,by trivial⟩
theorem z8W:Uses "orfalse":=⟨by trivial,by trivial⟩
theorem ZX {op:Str} (h:qa op=some ("none":Str)):Bare op .non:=⟨"none",h,by trivial,by trivial,fun _=>rfl⟩
theorem Qm:Bare "endtry" .non:=ZX (by trivial)
theorem z46:Bare "drop" .non:=ZX (by trivial)
theorem z44:Bare "tell" .non:=ZX (by trivial)
theorem z8N:Bare "same" .non:=ZX (by trivial)
theorem z45:Bare "raise" .non:=ZX (by trivial)
theorem z22:Bare "return" .non:=ZX (by trivial)
theorem z8O {v:V} (h:Z0 v=true) (ho:okV v=true):Bare "push" v:=⟨"value",by trivial,by trivial,by unfold jj;rw [kC rfl];exact h,fun _=>ho⟩
theorem z5R {v:V} (h:v∈([.str "a",.str "b",.str "c"]:List V)):Bare "load" v:=⟨"name",by trivial,by trivial,by revert v;decide+kernel,fun z=>absurd z (by trivial)⟩
theorem z7g {v:V} (h:v∈([.str "a",.str "b",.str "c"]:List V)):Bare "store" v:=⟨"name",by trivial,by trivial,by revert v;decide+kernel,fun z=>absurd z (by trivial)⟩
theorem z7h {v:V} (h:v∈([.str "b",.str "c"]:List V)):Bare "clear" v:=⟨"name",by trivial,by trivial,by revert v;decide+kernel,fun z=>absurd z (by trivial)⟩
theorem Zr {s:Str} {i lo hi:Int} (h:∀x,jj s x=qQ x lo hi) (h0:lo≤i) (h1:i≤hi):jj s (.int i)=true:=by
 rw [h]
 show (decide (lo≤i)&&decide (i≤hi))=true
 rw [ki h0,ki h1]
 rfl
theorem z8M {i:Int} (h0:2≤i) (h1:i≤9):Bare "swap" (.int i):=⟨"swapped",by trivial,by trivial,Zr (fun x=>by
 unfold jj;rw [kz (by trivial),kz (by trivial),kz (by trivial),kC rfl];rfl) h0 h1,fun z=>absurd z (by trivial)⟩
theorem z8P {i:Int} (h0:1≤i) (h1:i≤9):Bare "copy" (.int i):=⟨"copied",by trivial,by trivial,Zr (fun x=>by
 unfold jj;rw [kz (by trivial),kz (by trivial),kC rfl];rfl) h0 h1,fun z=>absurd z (by trivial)⟩
section
variable {K:ky} {H H' H1 H2:Hp} {p:Pl} {c c1 c2 k k1 k2 B B1 B2:Nat} {rs n1 n2:List Row}
theorem Step.tick (s:Step K H H1 p c rs k c1 n1 k1 B1) (u:Step K H1 H2 p c1 (rs++n1) k1 c2 [] k2 B2):Step K H H2 p c rs k c2 n1 k2 (B1+B2):=by
 have:=s.trans u
 rw [kY] at this
 exact this
theorem Step.len (s:Step K H H1 p c rs k c1 n1 k1 B1):(rs++n1).length≤rs.length+B1:=by
 have:=s.n
 rw [kl]
 lia
end
def qH (K:ky) (C:Int→Nat→Prop) (δ:Int) (su:Bool):Sp:=fun vs H Q _=>∃(p:Pl) (c:Nat) (rs:List Row) (k:Nat) (e:Int) (B:Nat),vs=[.ref p.a,.ref p.t,.ref p.r,.ref p.m,.int e]∧C e B∧GS K H p c rs k∧c+B≤15000∧rs.length+B≤15000∧k+B≤15000∧
 ∀c' new k' H',Step K H H' p c rs k c' new k' B→Good k k' new→Ty δ su k k' new→Q .non H'
theorem jw {K:ky} {C:Int→Nat→Prop} {δ:Int} {su:Bool} (vs:List V) (H:Hp) (Q:VK) (E:XK) (h:qH K C δ su vs H Q E):vs.length=5:=by
 obtain ⟨p,c,rs,k,e,B,rfl,_⟩:=h
 rfl
def CV (n:Nat) (e:Int) (B:Nat):Prop:=∃d:Nat,e=(d:Int)∧d < n∧B=bV d
def CTV (n:Nat) (e:Int) (B:Nat):Prop:=∃d:Nat,e=(d:Int)+1∧d < n∧B=bV d+7
def CMV (n:Nat) (_:Int) (B:Nat):Prop:=0 < n∧B=30
noncomputable abbrev gps:List Str:=["_law_script","_law_town_here","_law_rows","_law_marks","_law_deep"]
theorem zK {n:Nat} (h:n≤15000):(0:Int)≤10+(n:Int) / 2∧10+(n:Int) / 2≤9999:=by lia
section
structure jW (P:Program) (w:World) (K:ky) (mg:Str→Option Value) (base:Heap):Prop where
 draw:FN P w K mg base 1 "_law_draw" ["_law_script","_law_town_here","_law_many"] (z0c K)
 pick:FN P w K mg base 2 "_law_pick" ["_law_script","_law_town_here","_law_some"] (J5 K)
 const:FN P w K mg base 3 "_law_const" ["_law_script","_law_town_here"] (z11 K)
 put3:FNd P w K mg base 1 "_law_put" ["_law_rows","_law_op","_law_arg"] [] z0W
 put2:FNd P w K mg base 1 "_law_put" ["_law_rows","_law_op","_law_arg"] [.non] z0W
 mark:FN P w K mg base 1 "_law_mark" ["_law_marks"] spMk
theorem z6e:zj ["_law_script","_law_town_here","_law_rows","_law_marks","_law_deep","_law_mark_here","_law_end"] gps (zd (top 110)):=fsM
theorem z9G {n:Nat} (D:zo K mg "_law_tried_value" (top 110)) (S:jW P w K mg base) (FV:FN P w K mg base (3+2 * n) "_law_value" gps (qH K (CV n) 1 true)):FN P w K mg base (4+2 * n) "_law_tried_value" gps (qH K (CTV n) 1 true):=by
 have:=FN.of (k:=3+2 * n) (sp:=qH K (CTV n) 1 true) (P:=P) (w:=w) (base:=base) D z6e (fun _ _ _ _ _ _=>zU5 fun _ _ _ _ _=>rfl) jw (fun f cdv A outer s H vs Q E hr h=>?_)
 ·exact this.mono (by lia)
 obtain ⟨p,c,rs,k,e,B,rfl,⟨d,he,hd,hB⟩,g,bc,br,bk,q⟩:=h
 have hr1:=hr.mono (show 1≤3+2 * n by lia)
 refine ⟨_,z8 (zA (i:=5) z6e.nd rfl (Or.inl rfl) (zp S.mark hr1 rfl (z6 (pv 3) z7)))
  (z8 (zA (i:=6) z6e.nd rfl (Or.inl rfl) (zp S.mark hr1 rfl (z6 (pv 3) z7)))
  (z8 (zk (qe S.put3 hr1 rfl (z6 (pv 2) (z6 zi (z6 (pv 5) z7)))))
  (z8 (zk (zp FV hr rfl (z6 (pv 0) (z6 (pv 1) (z6 (pv 2) (z6 (pv 3) (z6 (zJ qU (pv 4) zg) z7)))))))
  (z8 (zk (qe S.put2 hr1 rfl (z6 (pv 2) (z6 zi z7))))
  (z8 (zk (qe S.put3 hr1 rfl (z6 (pv 2) (z6 zi (z6 (pv 6) z7)))))
  (z8 (zk (qe S.put3 hr1 rfl (z6 (pv 2) (z6 zi (z6 (pv 5) z7)))))
  (zc (zk (qe S.put3 hr1 rfl (z6 (pv 2) (z6 zi (z6 (pv 6) z7)))))))))))),?_⟩
 try dsimp only [L2.cxOf,L2.Cx.nox]
 refine ⟨_,rfl,Jv g (by lia) fun H1 s1=>?_⟩
 refine ⟨_,rfl,Jv s1.gs (by lia) fun H2 s2=>?_⟩
 have t2:=s1.trans s2
 refine ⟨_,rfl,_,rfl,qb t2.gs (by have:=t2.n;rw [kl];lia) fun H3 s3=>?_⟩
 have t3:=t2.trans s3
 refine ⟨_,rfl,_,rfl,_,rfl,_,rfl,_,rfl,_,_,rfl,rfl,p,_,_,_,_,bV d,rfl,⟨d,(by show e - 1=_;lia),hd,rfl⟩,t3.gs,(by have:=t3.c2;lia),(by have:=t3.n;rw [kl];lia),(by have:=t3.k2;lia),fun c4 n4 k4 H4 s4 g4 y4=>?_⟩
 have t4:=t3.trans s4
 refine ⟨_,rfl,qb t4.gs (by have:=t4.n;rw [kl];lia) fun H5 s5=>?_⟩
 have t5:=t4.trans s5
 refine ⟨_,rfl,_,rfl,qb t5.gs (by have:=t5.n;rw [kl];lia) fun H6 s6=>?_⟩
 have t6:=t5.trans s6
 refine ⟨_,rfl,_,rfl,qb t6.gs (by have:=t6.n;rw [kl];lia) fun H7 s7=>?_⟩
 have t7:=t6.trans s7
 refine ⟨_,rfl,_,rfl,qb t7.gs (by have:=t7.n;rw [kl];lia) fun H8 s8=>?_⟩
 have t8:=t7.trans s8
 have L2:=zK (n:=(rs++([]++[])).length) (by simp;lia)
 have L4:=zK (ku t4.len (by lia))
 have L5:=zK (ku t5.len (by lia))
 have L6:=zK (ku t6.len (by lia))
 have L7:=zK (ku t7.len (by lia))
 refine q _ _ _ _ (t8.more (by lia)) ⟨(((((((AllG.nil.app AllG.nil).app (AllG.one (Qg.rowG L2.1 L2.2))).app g4.row).app (AllG.one (Qm.rowG L4.1 L4.2))).app (AllG.one (qw.rowG L5.1 L5.2))).app (AllG.one (ja L6.1 L6.2))).app (AllG.one (ja L7.1 L7.2))),fun m=>?_,fun m h=>?_,fun m h=>?_,fun m ha hb=>?_⟩ (Ty.triedv y4 s4.k1 _ _ _ _ _)
 ·simp only [zY,qk,ql,Qg.noLab,Qm.noLab,qw.noLab]
  have:=g4.lab1 m;have:=g4.labI m;have:=qi m k;have:=qi m (k+1)
  lia
 ·simp only [zY,qk,ql,Qg.noLab,Qm.noLab,qw.noLab] at h
  have:=g4.labI m;have:=qi m k;have:=qi m (k+1);have:=s4.k1
  lia
 ·simp only [Zn,ZZ,Q0,Qg.use,Qm.noUse,qw.use] at h
  simp only [zY,qk,ql,Qg.noLab,Qm.noLab,qw.noLab]
  have:=g4.useI m
  lia
 ·simp only [zY,qk,ql,Qg.noLab,Qm.noLab,qw.noLab]
  have:=g4.labA m;have:=qi m k;have:=qi m (k+1)
  lia
end
set_option maxHeartbeats 8000000
section
variable {k k1:Nat} {n1:List Row}
theorem Good.put (g:Good k k1 n1) (hk:k≤k1) {op:Str} {v:V} (h:Bare op v) {l:Int} (h0:0≤l) (h1:l≤9999):Good k k1 (n1++[⟨op,v,l⟩]):=g.app (h.good h0 h1 k1) hk (ke _)
end
section
theorem z31:zj ["_law_script","_law_town_here","_law_rows","_law_marks","_law_deep","_law_many","_law_k"] gps (zd (top 111)):=fsM
theorem z2d {v:V} (h:v∈([.str "drop",.str "tell",.str "same"]:List V)):∃op,v=.str op∧Bare op .non∧(Zv op 1 0∨Zv op 2 1):=by
 rcases kF.mp h with e | h
 ·exact ⟨_,e,z46,.inl (Zo _ (by simp))⟩
 ·rcases kF.mp h with e | h
  ·exact ⟨_,e,z44,.inl (Zo _ (by simp))⟩
  ·exact ⟨_,ko.mp h,z8N,.inr (z5I _ (by simp))⟩
theorem z9M {n:Nat} (D:zo K mg "_law_moved_value" (top 111)) (G:Glo mg) (S:jW P w K mg base) (FV:FN P w K mg base (3+2 * n) "_law_value" gps (qH K (CV n) 1 true)):FN P w K mg base (4+2 * n) "_law_moved_value" gps (qH K (CMV n) 1 true):=by
 have:=FN.of (k:=3+2 * n) (sp:=qH K (CMV n) 1 true) (P:=P) (w:=w) (base:=base) D z31 (fun _ _ _ _ _ _=>zU5 fun _ _ _ _ _=>rfl) jw (fun f cdv A outer s H vs Q E hr h=>?_)
 ·exact this.mono (by lia)
 obtain ⟨p,c,rs,k,e,B,rfl,⟨hn,hB⟩,g,bc,br,bk,q⟩:=h
 have hr1:=hr.mono (show 1≤3+2 * n by lia)
 have hr2:=hr.mono (show 2≤3+2 * n by lia)
 refine ⟨_,z8 (zA (i:=5) z31.nd rfl (Or.inl rfl) (zJ qV zg (zp S.draw hr1 rfl (z6 (pv 0) (z6 (pv 1) (z6 zg z7))))))
  (z8 (ZE PassesOwn.never rfl (ZG rfl G.range (z6 (pv 5) z7)) (zB (i:=6) z31.nd rfl (Or.inl rfl)) (zc (zk (zp FV hr rfl (z6 (pv 0) (z6 (pv 1) (z6 (pv 2) (z6 (pv 3) (z6 zg z7)))))))))
  (z8 (ZE PassesOwn.never rfl (ZG rfl G.range (z6 (zp S.draw hr1 rfl (z6 (pv 0) (z6 (pv 1) (z6 zg z7)))) z7)) (zB (i:=6) z31.nd rfl (Or.inl rfl))
   (zc (zk (qe S.put3 hr1 rfl (z6 (pv 2) (z6 zi (z6 (zJ qV zg (zp S.draw hr1 rfl (z6 (pv 0) (z6 (pv 1) (z6 (zJ qU (pv 5) zg) z7))))) z7)))))))
  (z8 (zD (zl zT (zp S.draw hr1 rfl (z6 (pv 0) (z6 (pv 1) (z6 zg z7)))) zg (zn _))
   (z8 (zk (qe S.put3 hr1 rfl (z6 (pv 2) (z6 zi (z6 (zJ qV zg (zp S.draw hr1 rfl (z6 (pv 0) (z6 (pv 1) (z6 (pv 5) z7))))) z7)))))
    (zc (zk (qe S.put2 hr1 rfl (z6 (pv 2) (z6 zi z7)))))) zu)
  (zc (ZE PassesOwn.never rfl (ZG rfl G.range (z6 (zJ qU (pv 5) zg) z7)) (zB (i:=6) z31.nd rfl (Or.inl rfl))
   (zc (zk (qe S.put2 hr1 rfl (z6 (pv 2) (z6 (zp S.pick hr2 rfl (z6 (pv 0) (z6 (pv 1) (z6 (qu (z6 zi (z6 zi (z6 zi z7)))) z7)))) z7)))))))))),?_⟩
 try dsimp only [L2.cxOf,L2.Cx.nox]
 refine ⟨_,rfl,_,rfl,jR g (by lia) (by decide) (by decide) fun i0 H1 i00 i01 s1=>?_⟩
 refine ⟨_,_,rfl,rfl,?_⟩
 have hm0:2≤2+i0∧2+i0≤4:=⟨by lia,by lia⟩
 show tSeq _ _ _ [some (.ref p.a),some (.ref p.t),some (.ref p.r),some (.ref p.m),some (.int e),some (.int (2+i0)),none] H1
 generalize (2+i0:Int)=many at *
 refine ⟨_,rfl,many,rfl,by lia,by lia,ZR (lo:=0) (n:=many.toNat) (fun i σ H2=>∃v c' new k',σ=[some (.ref p.a),some (.ref p.t),some (.ref p.r),some (.ref p.m),some (.int e),some (.int many),v]∧Step K H H2 p c rs k c' new k' (1+3 * i)∧Good k k' new∧Ty (i:Int) true k k' new)
  ⟨none,_,_,_,rfl,s1,Good.nil k,Ty.nil k⟩ ?_ ?_⟩
 ·rintro i σ H2 hi ⟨v,c',new,k',rfl,st,gd,ty⟩
  have l:=st.len
  refine ⟨_,rfl,_,rfl,_,rfl,_,rfl,p,_,_,_,_,3,rfl,⟨0,rfl,hn,rfl⟩,st.gs,(by have:=st.c2;lia),(by lia),(by have:=st.k2;lia),fun c4 n4 k4 H4 s4 g4 y4=>?_⟩
  exact ⟨_,c4,new++n4,k4,rfl,(st.trans s4).more (by lia),gd.app g4 st.k1 s4.k1,(ty.app y4 st.k1 s4.k1 (by lia)).cast (by lia)⟩
 rintro σ H2 ⟨v,c2,n2,k2,rfl,t2,g2,y2⟩
 have y2:=y2.cast (show ((many.toNat:Nat):Int)=many by lia)
 have t2:=t2.more (show _≤13 by lia)
 have l2:=t2.len
 refine ⟨_,rfl,_,rfl,jR t2.gs (by have:=t2.c2;lia) (by decide) (by decide) fun j0 H3 j00 j01 s3=>?_⟩
 have t3:=t2.tick s3
 refine ⟨j0,rfl,by lia,by lia,ZR (lo:=0) (n:=j0.toNat) (fun i σ H2=>∃v c' new k',σ=[some (.ref p.a),some (.ref p.t),some (.ref p.r),some (.ref p.m),some (.int e),some (.int many),v]∧Step K H H2 p c rs k c' new k' (14+2 * i)∧Good k k' new∧Ty many true k k' new)
  ⟨v,_,_,_,rfl,t3,g2,y2⟩ ?_ ?_⟩
 ·rintro i σ H2 hi ⟨v,c',new,k',rfl,st,gd,ty⟩
  have l:=st.len
  refine ⟨_,rfl,_,rfl,_,rfl,_,rfl,_,_,rfl,rfl,jR st.gs (by have:=st.c2;lia) (by show 1≤many - 1;lia) (by show many - 1≤1000;lia) fun x H4 x0 x1 s4=>?_⟩
  have x1:x < many - 1:=x1
  have t4:=st.tick s4
  have l4:=t4.len
  refine ⟨_,_,rfl,rfl,qb t4.gs (by lia) fun H5 s5=>?_⟩
  have L:=zK (show (rs++new).length≤15000 by lia)
  exact ⟨_,_,_,_,rfl,(t4.trans s5).more (by lia),gd.put st.k1 (z8M (by lia) (by lia)) L.1 L.2,(ty.deep z78 (n:=2+x) (by lia) _).cast (by lia)⟩
 rintro σ H4 ⟨v4,c4,n4,k4,rfl,t4,g4,y4⟩
 have t4:=t4.more (show _≤20 by lia)
 have l4:=t4.len
 have last:∀{v5:Option V} {c5:Nat} {n5:List Row} {k5:Nat} {H5:Hp},Step K H H5 p c rs k c5 n5 k5 24→Good k k5 n5→Ty many true k k5 n5→
   tFor (z8m (jr (tOp (rI0 fun i j=>.int (i - j)) (tVar 5) (tC (.int 1))) tNil)) (z3C 6) (z7v (z2I z0W [.non] E0 (jr (tVar 2) (jr (z2I (J5 K) [] E0 (jr (tVar 0) (jr (tVar 1) (jr (tLst (jr (tC (.str "drop")) (jr (tC (.str "tell")) (jr (tC (.str "same")) tNil)))) tNil)))) tNil))))
    { nx:=fun _ H'=>Q .non H',rt:=Q } [some (.ref p.a),some (.ref p.t),some (.ref p.r),some (.ref p.m),some (.int e),some (.int many),v5] H5:=by
  intro v5 c5 n5 k5 H5 t5 g5 y5
  refine ⟨_,rfl,_,_,rfl,rfl,many - 1,rfl,by lia,by lia,ZR (lo:=0) (n:=(many - 1).toNat) (fun i σ H2=>∃v c' new k',σ=[some (.ref p.a),some (.ref p.t),some (.ref p.r),some (.ref p.m),some (.int e),some (.int many),v]∧Step K H H2 p c rs k c' new k' (24+2 * i)∧Good k k' new∧Ty (many - i) true k k' new)
   ⟨v5,_,_,_,rfl,t5,g5,y5.cast (by lia)⟩ ?_ ?_⟩
  ·rintro i σ H2 hi ⟨v,c',new,k',rfl,st,gd,ty⟩
   have l:=st.len
   refine ⟨_,rfl,_,rfl,_,rfl,by show 3≤sizeLine;decide,fun x hx=>?_⟩
   refine jQ st.gs (by have:=st.c2;lia) hx (by show 1≤3;decide) (by show 3≤1000;decide) fun y H6 hy s6=>?_
   obtain ⟨op,rfl,hb,hpl⟩:=z2d hy
   have t6:=st.tick s6
   have l6:=t6.len
   refine qb t6.gs (by lia) fun H7 s7=>?_
   have L:=zK (show (rs++new).length≤15000 by lia)
   exact ⟨_,_,_,_,rfl,(t6.trans s7).more (by lia),gd.put st.k1 hb L.1 L.2,hpl.elim (fun z=>(ty.row z (by lia) _ _).cast (by lia)) (fun z=>(ty.row z (by lia) _ _).cast (by lia))⟩
  ·rintro σ H2 ⟨v,c',new,k',rfl,st,gd,ty⟩
   exact q _ _ _ _ (st.more (by lia)) gd (ty.cast (by lia))
 refine ⟨_,rfl,_,rfl,jR t4.gs (by have:=t4.c2;lia) (by decide) (by decide) fun y0 H5 y00 y01 s5=>?_⟩
 have t5:=t4.tick s5
 have l5:=t5.len
 refine ⟨rfl,_,rfl,?_⟩
 refine ite2 (fun _=>?_) (fun _=>last (t5.more (by lia)) g4 y4)
 refine ⟨_,rfl,_,rfl,_,rfl,_,rfl,jR t5.gs (by have:=t5.c2;lia) (by lia) (by lia) fun z H6 z0 z1 s6=>?_⟩
 have t6:=t5.tick s6
 have l6:=t6.len
 refine ⟨_,_,rfl,rfl,qb t6.gs (by lia) fun H7 s7=>?_⟩
 have t7:=t6.trans s7
 have l7:=t7.len
 refine ⟨_,rfl,qb t7.gs (by lia) fun H8 s8=>?_⟩
 have L6:=zK (show (rs++n4).length≤15000 by lia)
 have L7:=zK (ku t7.len (show _≤15000 by lia))
 exact last ((t7.trans s8).more (by lia)) ((g4.put t4.k1 (z8P (by lia) (by lia)) L6.1 L6.2).put t4.k1 z46 L7.1 L7.2) (((y4.deep z79 (n:=1+z) (by lia) _).row (Zo _ (by simp)) (by lia) _ _).cast (by lia))
end
section
theorem z6f:zj ["_law_script","_law_town_here","_law_rows","_law_marks","_law_deep","_law_way","_law_mark_here"] gps (zd (top 109)):=fsM
theorem QB {v:V} {a b:Str} (h:v∈([.str a,.str b]:List V)) {R:Str→Prop} (ha:R a) (hb:R b):∃op,v=.str op∧R op∧op∈[a,b]:=by
 rcases kF.mp h with e | h
 ·exact ⟨_,e,ha,by simp⟩
 ·exact ⟨_,ko.mp h,hb,by simp⟩
theorem z2c {v:V} (h:v∈([.str "add",.str "sub",.str "mul",.str "div",.str "rest",.str "less",.str "same"]:List V)):∃op,v=.str op∧Bare op .non∧Zv op 2 1:=by
 have all:∀v∈([.str "add",.str "sub",.str "mul",.str "div",.str "rest",.str "less",.str "same"]:List V),∃op,v=.str op∧qa op=some ("none":Str)∧Zv op 2 1:=by
  intro v h
  simp only [kF,kq,or_false] at h
  rcases h with rfl | rfl | rfl | rfl | rfl | rfl | rfl
  all_goals exact ⟨_,rfl,by trivial,z5I _ (by simp)⟩
 obtain ⟨op,e,hs,hp⟩:=all v h
 exact ⟨op,e,ZX hs,hp⟩
theorem fn_v {n:Nat} (D:zo K mg "_law_value" (top 109)) (S:jW P w K mg base) (FV:FN P w K mg base (3+2 * n) "_law_value" gps (qH K (CV n) 1 true)) (FT:FN P w K mg base (4+2 * n) "_law_tried_value" gps (qH K (CTV n) 1 true))
  (FM:FN P w K mg base (4+2 * n) "_law_moved_value" gps (qH K (CMV n) 1 true)):FN P w K mg base (3+2 * (n+1)) "_law_value" gps (qH K (CV (n+1)) 1 true):=by
 have:=FN.of (k:=4+2 * n) (sp:=qH K (CV (n+1)) 1 true) (P:=P) (w:=w) (base:=base) D z6f (fun _ _ _ _ _ _=>zU5 fun _ _ _ _ _=>rfl) jw (fun f cdv A outer s H vs Q E hr h=>?_)
 ·exact this.mono (by lia)
 obtain ⟨p,c,rs,k,e,B,rfl,⟨d,he,hd,hB⟩,g,bc,br,bk,q⟩:=h
 have hr1:=hr.mono (show 1≤4+2 * n by lia)
 have hr2:=hr.mono (show 2≤4+2 * n by lia)
 have hr3:=hr.mono (show 3≤4+2 * n by lia)
 have hrV:=hr.mono (show 3+2 * n≤4+2 * n by lia)
 have hb3:=Jn d
 refine ⟨_,z8 (zA (i:=5) z6f.nd rfl (Or.inl rfl) (qG (zl z0l (pv 4) zg (zn _)) (zp S.draw hr1 rfl (z6 (pv 0) (z6 (pv 1) (z6 zg z7)))) (zp S.draw hr1 rfl (z6 (pv 0) (z6 (pv 1) (z6 zg z7))))))
  (zc (zD (zl Qj (pv 5) zg (zn _)) (zc (zk (qe S.put3 hr1 rfl (z6 (pv 2) (z6 zi (z6 (zp S.const hr3 rfl (z6 (pv 0) (z6 (pv 1) z7))) z7))))))
  (zc (zD (zl Qj (pv 5) zg (zn _)) (zc (zk (qe S.put3 hr1 rfl (z6 (pv 2) (z6 zi (z6 (zp S.pick hr2 rfl (z6 (pv 0) (z6 (pv 1) (z6 (qu (z6 zi (z6 zi (z6 zi z7)))) z7)))) z7))))))
  (zc (zD (zl Qj (pv 5) zg (zn _))
   (z8 (zk (zp FV hrV rfl (z6 (pv 0) (z6 (pv 1) (z6 (pv 2) (z6 (pv 3) (z6 (zJ qU (pv 4) zg) z7)))))))
   (z8 (zk (zp FV hrV rfl (z6 (pv 0) (z6 (pv 1) (z6 (pv 2) (z6 (pv 3) (z6 (zJ qU (pv 4) zg) z7)))))))
   (zc (zk (qe S.put2 hr1 rfl (z6 (pv 2) (z6 (zp S.pick hr2 rfl (z6 (pv 0) (z6 (pv 1) (z6 (qu (z6 zi (z6 zi (z6 zi (z6 zi (z6 zi (z6 zi (z6 zi z7)))))))) z7)))) z7)))))))
  (zc (zD (zl zT (pv 5) zg (zn _))
   (z8 (zk (zp FV hrV rfl (z6 (pv 0) (z6 (pv 1) (z6 (pv 2) (z6 (pv 3) (z6 (zJ qU (pv 4) zg) z7)))))))
   (zc (zk (qe S.put2 hr1 rfl (z6 (pv 2) (z6 (zp S.pick hr2 rfl (z6 (pv 0) (z6 (pv 1) (z6 (qu (z6 zi (z6 zi z7))) z7)))) z7))))))
  (zc (zD (zl zT (pv 5) zg (zn _))
   (z8 (zA (i:=6) z6f.nd rfl (Or.inl rfl) (zp S.mark hr1 rfl (z6 (pv 3) z7)))
   (z8 (zk (zp FV hrV rfl (z6 (pv 0) (z6 (pv 1) (z6 (pv 2) (z6 (pv 3) (z6 (zJ qU (pv 4) zg) z7)))))))
   (z8 (zk (qe S.put3 hr1 rfl (z6 (pv 2) (z6 (zp S.pick hr2 rfl (z6 (pv 0) (z6 (pv 1) (z6 (qu (z6 zi (z6 zi z7))) z7)))) (z6 (pv 6) z7)))))
   (z8 (zk (zp FV hrV rfl (z6 (pv 0) (z6 (pv 1) (z6 (pv 2) (z6 (pv 3) (z6 (zJ qU (pv 4) zg) z7)))))))
   (zc (zk (qe S.put3 hr1 rfl (z6 (pv 2) (z6 zi (z6 (pv 6) z7))))))))))
  (zc (zD (zl zT (pv 5) zg (zn _))
   (zc (zk (zp FT hr rfl (z6 (pv 0) (z6 (pv 1) (z6 (pv 2) (z6 (pv 3) (z6 (pv 4) z7))))))))
   (zc (zk (zp FM hr rfl (z6 (pv 0) (z6 (pv 1) (z6 (pv 2) (z6 (pv 3) (z6 (pv 4) z7)))))))))))))))))))) ,?_⟩
 try dsimp only [L2.cxOf,L2.Cx.nox]
 refine ⟨_,rfl,_,_,rfl,rfl,_,rfl,?_⟩
 refine ite2 (fun c0=>?_) (fun c0=>?_)
 all_goals
  refine ⟨_,rfl,_,rfl,jR g (by lia) (by decide) (by decide) fun i H1 i0 i1 s1=>?_⟩
  have i12:i < 12:=by lia
  have i4:e≤0→i < 4:=fun z=>by
   first
    | exact i1
    | (have:=kE c0;lia)
  have l1:=s1.len
  refine ⟨_,rfl,_,_,rfl,rfl,_,rfl,?_⟩
  refine ite2 (fun c1=>?_) (fun c1=>?_)
  ·refine ⟨_,rfl,_,rfl,_,rfl,z4n s1.gs (by have:=s1.c2;lia) fun v H2 hv hvo s2=>?_⟩
   have t2:=s1.tick s2
   have l2:=t2.len
   refine qb t2.gs (by lia) fun H3 s3=>?_
   have L:=zK (ku t2.len (show _≤15000 by lia))
   exact q _ _ _ _ ((t2.trans s3).more (by lia)) ((Good.nil k).put (ke _) (z8O hv hvo) L.1 L.2) (((Ty.nil k).row z6m (by decide) _ _).cast (by decide))
  ·refine ⟨_,rfl,_,_,rfl,rfl,_,rfl,?_⟩
   refine ite2 (fun c2=>?_) (fun c2=>?_)
   ·refine ⟨_,rfl,_,rfl,_,rfl,by show 3≤sizeLine;decide,fun x hx=>?_⟩
    refine jQ s1.gs (by have:=s1.c2;lia) hx (by show 1≤3;decide) (by show 3≤1000;decide) fun v H2 hv s2=>?_
    have t2:=s1.tick s2
    have l2:=t2.len
    refine qb t2.gs (by lia) fun H3 s3=>?_
    have L:=zK (ku t2.len (show _≤15000 by lia))
    exact q _ _ _ _ ((t2.trans s3).more (by lia)) ((Good.nil k).put (ke _) (z5R hv) L.1 L.2) (((Ty.nil k).row z37 (by decide) _ _).cast (by decide))
   ·have c2:¬i < 4:=fun z=>c2 (ki z)
    have e0:¬e≤0:=fun z=>c2 (i4 z)
    obtain ⟨d',rfl⟩:∃d',d=d'+1:=⟨d - 1,by lia⟩
    have eB:bV (d'+1)=2 * bV d'+25:=rfl
    have cv:CV n (e - 1) (bV d'):=⟨d',by lia,by lia,rfl⟩
    refine ⟨_,rfl,_,_,rfl,rfl,_,rfl,?_⟩
    refine ite2 (fun c3=>?_) (fun c3=>?_)
    ·refine ⟨_,rfl,_,rfl,_,rfl,_,rfl,_,rfl,_,_,rfl,rfl,p,_,_,_,_,bV d',rfl,cv,s1.gs,(by have:=s1.c2;lia),(by lia),(by have:=s1.k2;lia),fun c4 n4 k4 H4 s4 g4 y4=>?_⟩
     have t4:=s1.trans s4
     have l4:=t4.len
     refine ⟨_,rfl,_,rfl,_,rfl,_,rfl,_,rfl,_,_,rfl,rfl,p,_,_,_,_,bV d',rfl,cv,t4.gs,(by have:=t4.c2;lia),(by lia),(by have:=t4.k2;lia),fun c5 n5 k5 H5 s5 g5 y5=>?_⟩
     have t5:=t4.trans s5
     have l5:=t5.len
     refine ⟨_,rfl,_,rfl,_,rfl,by show 7≤sizeLine;decide,fun x hx=>?_⟩
     refine jQ t5.gs (by have:=t5.c2;lia) hx (by show 1≤7;decide) (by show 7≤1000;decide) fun v H6 hv s6=>?_
     obtain ⟨op,rfl,hb,hpl⟩:=z2c hv
     have t6:=t5.tick s6
     refine qb t6.gs (by have:=t6.len;lia) fun H7 s7=>?_
     have L:=zK (ku t6.len (show _≤15000 by lia))
     exact q _ _ _ _ ((t6.trans s7).more (by lia)) ((((Good.nil k).app g4 (ke _) s4.k1).app g5 s4.k1 s5.k1).put t5.k1 hb L.1 L.2) (((y4.app y5 s4.k1 s5.k1 (by decide)).row hpl (by decide) _ _).cast (by decide))
    ·refine ⟨_,rfl,rfl,_,rfl,?_⟩
     refine ite2 (fun c4=>?_) (fun c4=>?_)
     ·refine ⟨_,rfl,_,rfl,_,rfl,_,rfl,_,rfl,_,_,rfl,rfl,p,_,_,_,_,bV d',rfl,cv,s1.gs,(by have:=s1.c2;lia),(by lia),(by have:=s1.k2;lia),fun c4 n4 k4 H4 s4 g4 y4=>?_⟩
      have t4:=s1.trans s4
      have l4:=t4.len
      refine ⟨_,rfl,_,rfl,_,rfl,by show 2≤sizeLine;decide,fun x hx=>?_⟩
      refine jQ t4.gs (by have:=t4.c2;lia) hx (by show 1≤2;decide) (by show 2≤1000;decide) fun v H6 hv s6=>?_
      obtain ⟨op,rfl,hb,hmem⟩:=QB hv (R:=fun op=>Bare op .non) (ZX (by trivial)) (ZX (by trivial))
      have t6:=t4.tick s6
      refine qb t6.gs (by have:=t6.len;lia) fun H7 s7=>?_
      have L:=zK (ku t6.len (show _≤15000 by lia))
      exact q _ _ _ _ ((t6.trans s7).more (by lia)) (((Good.nil k).app g4 (ke _) s4.k1).put t4.k1 hb L.1 L.2) ((y4.row (z7W _ hmem) (by decide) _ _).cast (by decide))
     ·refine ⟨_,rfl,rfl,_,rfl,?_⟩
      refine ite2 (fun c5=>?_) (fun c5=>?_)
      ·refine ⟨_,rfl,Jv s1.gs (by have:=s1.k2;lia) fun H2 s2=>?_⟩
       have t2:=s1.tick s2
       refine ⟨_,rfl,_,rfl,_,rfl,_,rfl,_,rfl,_,_,rfl,rfl,p,_,_,_,_,bV d',rfl,cv,t2.gs,(by have:=t2.c2;lia),(by have:=t2.len;lia),(by have:=t2.k2;lia),fun c4 n4 k4 H4 s4 g4 y4=>?_⟩
       have t4:=t2.trans s4
       refine ⟨_,rfl,_,rfl,_,rfl,by show 2≤sizeLine;decide,fun x hx=>?_⟩
       refine jQ t4.gs (by have:=t4.c2;lia) hx (by show 1≤2;decide) (by show 2≤1000;decide) fun v H5 hv s5=>?_
       obtain ⟨op,rfl,hb,hmem⟩:=QB hv (R:=Uses) z8V z8W
       have t5:=t4.tick s5
       refine ⟨_,rfl,qb t5.gs (by have:=t5.len;lia) fun H6 s6=>?_⟩
       have t6:=t5.trans s6
       refine ⟨_,rfl,_,rfl,_,rfl,_,rfl,_,rfl,_,_,rfl,rfl,p,_,_,_,_,bV d',rfl,cv,t6.gs,(by have:=t6.c2;lia),(by have:=t6.len;lia),(by have:=t6.k2;lia),fun c7 n7 k7 H7 s7 g7 y7=>?_⟩
       have t7:=t6.trans s7
       refine ⟨_,rfl,_,rfl,qb t7.gs (by have:=t7.len;lia) fun H8 s8=>?_⟩
       have L5:=zK (ku t5.len (show _≤15000 by lia))
       have L7:=zK (ku t7.len (show _≤15000 by lia))
       refine q _ _ _ _ ((t7.trans s8).more (by lia)) ⟨((((AllG.nil.app g4.row).app (AllG.one (hb.rowG L5.1 L5.2))).app g7.row).app (AllG.one (ja L7.1 L7.2))),fun m=>?_,fun m h=>?_,fun m h=>?_,fun m ha hb'=>?_⟩ (Ty.orv y4 y7 s4.k1 s7.k1 hmem _ _)
       ·simp only [zY,qk,ql,hb.noLab]
        have:=g4.lab1 m;have:=g4.labI m;have:=g7.lab1 m;have:=g7.labI m;have:=qi m k;have:=s4.k1
        lia
       ·simp only [zY,qk,ql,hb.noLab] at h
        have:=g4.labI m;have:=g7.labI m;have:=qi m k;have:=s4.k1;have:=s7.k1
        lia
       ·simp only [Zn,ZZ,Q0,hb.use] at h
        simp only [zY,qk,ql,hb.noLab]
        have:=g4.useI m;have:=g7.useI m
        lia
       ·simp only [zY,qk,ql,hb.noLab]
        have:=g4.labA m;have:=g7.labA m;have:=qi m k
        lia
      ·refine ⟨_,rfl,rfl,_,rfl,?_⟩
       refine ite2 (fun c6=>?_) (fun c6=>?_)
       ·refine ⟨_,rfl,_,rfl,_,rfl,_,rfl,_,rfl,p,_,_,_,_,bV d'+7,rfl,⟨d',by lia,by lia,rfl⟩,s1.gs,(by have:=s1.c2;lia),(by lia),(by have:=s1.k2;lia),fun c4 n4 k4 H4 s4 g4 y4=>?_⟩
        exact q _ _ _ _ ((s1.trans s4).more (by lia)) ((Good.nil k).app g4 (ke _) s4.k1) y4
       ·refine ⟨_,rfl,_,rfl,_,rfl,_,rfl,_,rfl,p,_,_,_,_,30,rfl,⟨by lia,rfl⟩,s1.gs,(by have:=s1.c2;have:=Jn d';lia),(by have:=Jn d';lia),(by have:=s1.k2;have:=Jn d';lia),fun c4 n4 k4 H4 s4 g4 y4=>?_⟩
        exact q _ _ _ _ ((s1.trans s4).more (by have:=Jn d';lia)) ((Good.nil k).app g4 (ke _) s4.k1) y4
theorem z1V {name:Str} {st:Stmt} {k:Nat} {C:Int→Nat→Prop} {δ:Int} {su:Bool} (D:zo K mg name st) (hb:∀(kV doc pm:Value) (an:Option Addr) (cdv ct:Value) (us:List Value),us.length=gps.length→bindArgs (PySem.W.fnOf name name (qz st) (zN st) (zd st) .none kV doc pm an cdv ct) ⟨us,[]⟩=pure (gps.zip us))
  (no:∀e B,¬C e B):FN P w K mg base k name gps (qH K C δ su):=by
 obtain ⟨f,fd,F,m⟩:=D
 have no':∀vs H Q E,¬qH K C δ su vs H Q E:=fun vs H Q E h=>by
  obtain ⟨_,_,_,_,e,B,_,hc,_⟩:=h
  exact no e B hc
 exact ⟨f,fd,m,F.kp,F.binds hb,⟨fun vs H Q E h=>absurd h (no' vs H Q E),fun A outer s H args us vs Q E _ _ _ _ h=>absurd h (no' vs H Q E)⟩⟩
theorem z0B (DV:zo K mg "_law_value" (top 109)) (DT:zo K mg "_law_tried_value" (top 110)) (DM:zo K mg "_law_moved_value" (top 111)) (G:Glo mg) (S:jW P w K mg base):∀n,FN P w K mg base (3+2 * n) "_law_value" gps (qH K (CV n) 1 true)
 | 0=>z1V DV (fun _ _ _ _ _ _=>zU5 fun _ _ _ _ _=>rfl) fun e B ⟨d,_,h,_⟩=>absurd h (Nat.not_lt_zero _)
 | n+1=>by
  have ih:=z0B DV DT DM G S n
  exact fn_v DV S ih (z9G DT S ih) (z9M DM G S ih)
end
noncomputable def bD:Nat→Nat
 | 0=>92
 | d+1=>2 * bD d+200
theorem z0P:∀d,92≤bD d
 | 0=>ke _
 | d+1=>by have:=z0P d;show 92≤2 * bD d+200;lia
def CD (n:Nat) (e:Int) (B:Nat):Prop:=∃d:Nat,e=(d:Int)∧d < n∧B=bD d
def CC (n:Nat) (e:Int) (B:Nat):Prop:=∃d:Nat,e=(d:Int)+1∧d < n∧B=2 * bD d+150
theorem Ty.choice0 {k k1 k2:Nat} {l1 l2:List Row} {s2:Bool} (x:Ty 1 true (k+2) k1 l1) (y:Ty 0 s2 k1 k2 l2) (h1:k+2≤k1) (h2:k1≤k2) {op:Str} (ho:op∈(["iftrue","iffalse"]:List Str)) (a b c e:Int):
  Ty 0 true k k2 (l1++[⟨op,.int (k:Int),a⟩]++l2++[⟨"jump",.int ((k+1:Nat):Int),b⟩]++[⟨"label",.int (k:Int),c⟩]++[⟨"label",.int ((k+1:Nat):Int),e⟩]):=by
 have:=Ty.choice x y (Ty.nil k2) h1 h2 (ke _) ho a b c e
 rw [kY] at this
 exact this
theorem cv1:CV 3 1 31:=⟨1,rfl,by decide,rfl⟩
theorem cv2:CV 3 2 87:=⟨2,rfl,by decide,rfl⟩
theorem cv0:CV 3 0 3:=⟨0,rfl,by decide,rfl⟩
section
theorem z7M:zj ["_law_script","_law_town_here","_law_rows","_law_marks","_law_deep","_law_other","_law_end"] gps (zd (top 113)):=fsM
theorem z3J {n:Nat} (D:zo K mg "_law_choice" (top 113)) (S:jW P w K mg base) (FV:FN P w K mg base 9 "_law_value" gps (qH K (CV 3) 1 true)) (FD:FN P w K mg base (10+2 * n) "_law_deed" gps (qH K (CD n) 0 false)):FN P w K mg base (11+2 * n) "_law_choice" gps (qH K (CC n) 0 false):=by
 have:=FN.of (k:=10+2 * n) (sp:=qH K (CC n) 0 false) (P:=P) (w:=w) (base:=base) D z7M (fun _ _ _ _ _ _=>zU5 fun _ _ _ _ _=>rfl) jw (fun f cdv A outer s H vs Q E hr h=>?_)
 ·exact this.mono (by lia)
 obtain ⟨p,c,rs,k,e,B,rfl,⟨d,he,hd,hB⟩,g,bc,br,bk,q⟩:=h
 have hr1:=hr.mono (show 1≤10+2 * n by lia)
 have hr2:=hr.mono (show 2≤10+2 * n by lia)
 have hr9:=hr.mono (show 9≤10+2 * n by lia)
 have bp:=z0P d
 have cd:CD n (e - 1) (bD d):=⟨d,by lia,hd,rfl⟩
 refine ⟨_,z8 (ZD (i:=5) (j:=6) rfl z7M.nd rfl rfl (by decide) rfl rfl (z6 (zp S.mark hr1 rfl (z6 (pv 3) z7)) (z6 (zp S.mark hr1 rfl (z6 (pv 3) z7)) z7)) rfl)
  (z8 (zk (zp FV hr9 rfl (z6 (pv 0) (z6 (pv 1) (z6 (pv 2) (z6 (pv 3) (z6 zg z7)))))))
  (z8 (zk (qe S.put3 hr1 rfl (z6 (pv 2) (z6 (zp S.pick hr2 rfl (z6 (pv 0) (z6 (pv 1) (z6 (qu (z6 zi (z6 zi z7))) z7)))) (z6 (pv 5) z7)))))
  (z8 (zk (zp FD hr rfl (z6 (pv 0) (z6 (pv 1) (z6 (pv 2) (z6 (pv 3) (z6 (zJ qU (pv 4) zg) z7)))))))
  (z8 (zk (qe S.put3 hr1 rfl (z6 (pv 2) (z6 zi (z6 (pv 6) z7)))))
  (z8 (zk (qe S.put3 hr1 rfl (z6 (pv 2) (z6 zi (z6 (pv 5) z7)))))
  (z8 (zD (zl zT (zp S.draw hr1 rfl (z6 (pv 0) (z6 (pv 1) (z6 zg z7)))) zg (zn _))
   (zc (zk (zp FD hr rfl (z6 (pv 0) (z6 (pv 1) (z6 (pv 2) (z6 (pv 3) (z6 (zJ qU (pv 4) zg) z7)))))))) zu)
  (zc (zk (qe S.put3 hr1 rfl (z6 (pv 2) (z6 zi (z6 (pv 6) z7)))))))))))) ,?_⟩
 try dsimp only [L2.cxOf,L2.Cx.nox]
 refine ⟨_,rfl,Jv g (by lia) fun H1 s1=>?_⟩
 refine ⟨_,rfl,Jv s1.gs (by have:=s1.k2;lia) fun H2 s2=>?_⟩
 refine ⟨_,_,rfl,?_⟩
 have t2:=s1.tick s2
 refine ⟨_,rfl,_,rfl,_,rfl,_,rfl,p,_,_,_,_,31,rfl,cv1,t2.gs,(by have:=t2.c2;lia),(by have:=t2.len;lia),(by have:=t2.k2;lia),fun c3 n3 k3 H3 s3 g3 y3=>?_⟩
 have t3:=t2.trans s3
 refine ⟨_,rfl,_,rfl,_,rfl,by show 2≤sizeLine;decide,fun x hx=>?_⟩
 refine jQ t3.gs (by have:=t3.c2;lia) hx (by show 1≤2;decide) (by show 2≤1000;decide) fun v H4 hv s4=>?_
 obtain ⟨op,rfl,hb,hmem⟩:=QB hv (R:=Uses) z0R z8X
 have hmem:op∈(["iftrue","iffalse"]:List Str):=by
  rcases kF.mp hmem with z | z
  ·rw [z];decide+kernel
  ·rw [ko.mp z];decide+kernel
 have t4:=t3.tick s4
 refine ⟨_,rfl,qb t4.gs (by have:=t4.len;lia) fun H5 s5=>?_⟩
 have t5:=t4.trans s5
 refine ⟨_,rfl,_,rfl,_,rfl,_,rfl,_,rfl,_,_,rfl,rfl,p,_,_,_,_,bD d,rfl,cd,t5.gs,(by have:=t5.c2;lia),(by have:=t5.len;lia),(by have:=t5.k2;lia),fun c6 n6 k6 H6 s6 g6 y6=>?_⟩
 have t6:=t5.trans s6
 refine ⟨_,rfl,_,rfl,qb t6.gs (by have:=t6.len;lia) fun H7 s7=>?_⟩
 have t7:=t6.trans s7
 refine ⟨_,rfl,_,rfl,qb t7.gs (by have:=t7.len;lia) fun H8 s8=>?_⟩
 have t8:=t7.trans s8
 refine ⟨_,rfl,_,rfl,jR t8.gs (by have:=t8.c2;lia) (by decide) (by decide) fun y0 H9 y00 y01 s9=>?_⟩
 have t9:=t8.tick s9
 have L4:=zK (ku t4.len (show _≤15000 by lia))
 have L6:=zK (ku t6.len (show _≤15000 by lia))
 have L7:=zK (ku t7.len (show _≤15000 by lia))
 have all9:=((((AllG.nil.app g3.row).app (AllG.one (hb.rowG (j:=k) L4.1 L4.2))).app g6.row).app (AllG.one (qw.rowG (j:=k+1) L6.1 L6.2))).app (AllG.one (ja (j:=k) L7.1 L7.2))
 refine ⟨rfl,_,rfl,?_⟩
 refine ite2 (fun _=>?_) (fun _=>?_)
 ·refine ⟨_,rfl,_,rfl,_,rfl,_,rfl,_,rfl,_,_,rfl,rfl,p,_,_,_,_,bD d,rfl,cd,t9.gs,(by have:=t9.c2;lia),(by have:=t9.len;lia),(by have:=t9.k2;lia),fun cA nA kA HA sA gA yA=>?_⟩
  have tA:=t9.trans sA
  refine ⟨_,rfl,_,rfl,qb tA.gs (by have:=tA.len;lia) fun HB sB=>?_⟩
  have LA:=zK (ku tA.len (show _≤15000 by lia))
  refine q _ _ _ _ ((tA.trans sB).more (by lia)) ⟨(all9.app gA.row).app (AllG.one (ja LA.1 LA.2)),fun m=>?_,fun m h=>?_,fun m h=>?_,fun m ha hb'=>?_⟩ (Ty.choice y3 y6 yA s3.k1 s6.k1 sA.k1 hmem _ _ _ _).weak
  ·simp only [zY,qk,ql,hb.noLab,qw.noLab]
   have:=g3.lab1 m;have:=g3.labI m;have:=g6.lab1 m;have:=g6.labI m;have:=gA.lab1 m;have:=gA.labI m;have:=qi m k;have:=qi m (k+1);have:=s3.k1;have:=s6.k1
   lia
  ·simp only [zY,qk,ql,hb.noLab,qw.noLab] at h
   have:=g3.labI m;have:=g6.labI m;have:=gA.labI m;have:=qi m k;have:=qi m (k+1);have:=s3.k1;have:=s6.k1;have:=sA.k1
   lia
  ·simp only [Zn,ZZ,Q0,hb.use,qw.use] at h
   simp only [zY,qk,ql,hb.noLab,qw.noLab]
   have:=g3.useI m;have:=g6.useI m;have:=gA.useI m
   lia
  ·simp only [zY,qk,ql,hb.noLab,qw.noLab]
   have:=g3.labA m;have:=g6.labA m;have:=gA.labA m;have:=qi m k;have:=qi m (k+1)
   lia
 ·refine ⟨_,rfl,_,rfl,qb t9.gs (by have:=t9.len;lia) fun HB sB=>?_⟩
  have LA:=zK (ku t9.len (show _≤15000 by lia))
  refine q _ _ _ _ ((t9.trans sB).more (by lia)) ⟨all9.app (AllG.one (ja LA.1 LA.2)),fun m=>?_,fun m h=>?_,fun m h=>?_,fun m ha hb'=>?_⟩ (Ty.choice0 y3 y6 s3.k1 s6.k1 hmem _ _ _ _).weak
  ·simp only [zY,qk,ql,hb.noLab,qw.noLab]
   have:=g3.lab1 m;have:=g3.labI m;have:=g6.lab1 m;have:=g6.labI m;have:=qi m k;have:=qi m (k+1);have:=s3.k1
   lia
  ·simp only [zY,qk,ql,hb.noLab,qw.noLab] at h
   have:=g3.labI m;have:=g6.labI m;have:=qi m k;have:=qi m (k+1);have:=s3.k1;have:=s6.k1
   lia
  ·simp only [Zn,ZZ,Q0,hb.use,qw.use] at h
   simp only [zY,qk,ql,hb.noLab,qw.noLab]
   have:=g3.useI m;have:=g6.useI m
   lia
  ·simp only [zY,qk,ql,hb.noLab,qw.noLab]
   have:=g3.labA m;have:=g6.labA m;have:=qi m k;have:=qi m (k+1)
   lia
theorem z7L:zj ["_law_script","_law_town_here","_law_rows","_law_marks","_law_deep","_law_begin","_law_end"] gps (zd (top 114)):=fsM
theorem z4U {n:Nat} (D:zo K mg "_law_round" (top 114)) (S:jW P w K mg base) (FV:FN P w K mg base 9 "_law_value" gps (qH K (CV 3) 1 true)) (FD:FN P w K mg base (10+2 * n) "_law_deed" gps (qH K (CD n) 0 false)):FN P w K mg base (11+2 * n) "_law_round" gps (qH K (CC n) 0 false):=by
 have:=FN.of (k:=10+2 * n) (sp:=qH K (CC n) 0 false) (P:=P) (w:=w) (base:=base) D z7L (fun _ _ _ _ _ _=>zU5 fun _ _ _ _ _=>rfl) jw (fun f cdv A outer s H vs Q E hr h=>?_)
 ·exact this.mono (by lia)
 obtain ⟨p,c,rs,k,e,B,rfl,⟨d,he,hd,hB⟩,g,bc,br,bk,q⟩:=h
 have hr1:=hr.mono (show 1≤10+2 * n by lia)
 have hr9:=hr.mono (show 9≤10+2 * n by lia)
 have bp:=z0P d
 have cd:CD n (e - 1) (bD d):=⟨d,by lia,hd,rfl⟩
 refine ⟨_,z8 (ZD (i:=5) (j:=6) rfl z7L.nd rfl rfl (by decide) rfl rfl (z6 (zp S.mark hr1 rfl (z6 (pv 3) z7)) (z6 (zp S.mark hr1 rfl (z6 (pv 3) z7)) z7)) rfl)
  (z8 (zk (qe S.put3 hr1 rfl (z6 (pv 2) (z6 zi (z6 (pv 5) z7)))))
  (z8 (zk (zp FV hr9 rfl (z6 (pv 0) (z6 (pv 1) (z6 (pv 2) (z6 (pv 3) (z6 zg z7)))))))
  (z8 (zk (qe S.put3 hr1 rfl (z6 (pv 2) (z6 zi (z6 (pv 6) z7)))))
  (z8 (zk (zp FD hr rfl (z6 (pv 0) (z6 (pv 1) (z6 (pv 2) (z6 (pv 3) (z6 (zJ qU (pv 4) zg) z7)))))))
  (z8 (zk (qe S.put3 hr1 rfl (z6 (pv 2) (z6 zi (z6 (pv 5) z7)))))
  (zc (zk (qe S.put3 hr1 rfl (z6 (pv 2) (z6 zi (z6 (pv 6) z7))))))))))),?_⟩
 try dsimp only [L2.cxOf,L2.Cx.nox]
 refine ⟨_,rfl,Jv g (by lia) fun H1 s1=>?_⟩
 refine ⟨_,rfl,Jv s1.gs (by have:=s1.k2;lia) fun H2 s2=>?_⟩
 refine ⟨_,_,rfl,?_⟩
 have t2:=s1.tick s2
 refine ⟨_,rfl,_,rfl,qb t2.gs (by have:=t2.len;lia) fun H3 s3=>?_⟩
 have t3:=t2.trans s3
 refine ⟨_,rfl,_,rfl,_,rfl,_,rfl,p,_,_,_,_,31,rfl,cv1,t3.gs,(by have:=t3.c2;lia),(by have:=t3.len;lia),(by have:=t3.k2;lia),fun c4 n4 k4 H4 s4 g4 y4=>?_⟩
 have t4:=t3.trans s4
 refine ⟨_,rfl,_,rfl,qb t4.gs (by have:=t4.len;lia) fun H5 s5=>?_⟩
 have t5:=t4.trans s5
 refine ⟨_,rfl,_,rfl,_,rfl,_,rfl,_,rfl,_,_,rfl,rfl,p,_,_,_,_,bD d,rfl,cd,t5.gs,(by have:=t5.c2;lia),(by have:=t5.len;lia),(by have:=t5.k2;lia),fun c6 n6 k6 H6 s6 g6 y6=>?_⟩
 have t6:=t5.trans s6
 refine ⟨_,rfl,_,rfl,qb t6.gs (by have:=t6.len;lia) fun H7 s7=>?_⟩
 have t7:=t6.trans s7
 refine ⟨_,rfl,_,rfl,qb t7.gs (by have:=t7.len;lia) fun H8 s8=>?_⟩
 have L2:=zK (ku t2.len (show _≤15000 by lia))
 have L4:=zK (ku t4.len (show _≤15000 by lia))
 have L6:=zK (ku t6.len (show _≤15000 by lia))
 have L7:=zK (ku t7.len (show _≤15000 by lia))
 refine q _ _ _ _ ((t7.trans s8).more (by lia)) ⟨((((((AllG.nil.app (AllG.one (ja L2.1 L2.2))).app g4.row).app (AllG.one (z0R.rowG L4.1 L4.2))).app g6.row).app (AllG.one (qw.rowG L6.1 L6.2))).app (AllG.one (ja L7.1 L7.2))),fun m=>?_,fun m h=>?_,fun m h=>?_,fun m ha hb'=>?_⟩ (Ty.round y4 y6 s4.k1 s6.k1 _ _ _ _).weak
 ·simp only [zY,qk,ql,z0R.noLab,qw.noLab]
  have:=g4.lab1 m;have:=g4.labI m;have:=g6.lab1 m;have:=g6.labI m;have:=qi m k;have:=qi m (k+1);have:=s4.k1
  lia
 ·simp only [zY,qk,ql,z0R.noLab,qw.noLab] at h
  have:=g4.labI m;have:=g6.labI m;have:=qi m k;have:=qi m (k+1);have:=s4.k1;have:=s6.k1
  lia
 ·simp only [Zn,ZZ,Q0,z0R.use,qw.use] at h
  simp only [zY,qk,ql,z0R.noLab,qw.noLab]
  have:=g4.useI m;have:=g6.useI m
  lia
 ·simp only [zY,qk,ql,z0R.noLab,qw.noLab]
  have:=g4.labA m;have:=g6.labA m;have:=qi m k;have:=qi m (k+1)
  lia
theorem z7K:zj ["_law_script","_law_town_here","_law_rows","_law_marks","_law_deep","_law_hand","_law_end"] gps (zd (top 115)):=fsM
theorem z38 {v:V} (h:v∈([.str "drop",.str "tell",.str "raise"]:List V)):∃op,v=.str op∧Bare op .non∧op∈(["drop","tell","raise"]:List Str):=by
 rcases kF.mp h with e | h
 ·exact ⟨_,e,z46,by simp⟩
 ·rcases kF.mp h with e | h
  ·exact ⟨_,e,z44,by simp⟩
  ·exact ⟨_,ko.mp h,z45,by simp⟩
theorem z4S {n:Nat} (D:zo K mg "_law_tried" (top 115)) (S:jW P w K mg base) (FD:FN P w K mg base (10+2 * n) "_law_deed" gps (qH K (CD n) 0 false)):FN P w K mg base (11+2 * n) "_law_tried" gps (qH K (CC n) 0 false):=by
 have:=FN.of (k:=10+2 * n) (sp:=qH K (CC n) 0 false) (P:=P) (w:=w) (base:=base) D z7K (fun _ _ _ _ _ _=>zU5 fun _ _ _ _ _=>rfl) jw (fun f cdv A outer s H vs Q E hr h=>?_)
 ·exact this.mono (by lia)
 obtain ⟨p,c,rs,k,e,B,rfl,⟨d,he,hd,hB⟩,g,bc,br,bk,q⟩:=h
 have hr1:=hr.mono (show 1≤10+2 * n by lia)
 have hr2:=hr.mono (show 2≤10+2 * n by lia)
 have bp:=z0P d
 have cd:CD n (e - 1) (bD d):=⟨d,by lia,hd,rfl⟩
 have cd0:CD n 0 92:=⟨0,rfl,by lia,rfl⟩
 refine ⟨_,z8 (ZD (i:=5) (j:=6) rfl z7K.nd rfl rfl (by decide) rfl rfl (z6 (zp S.mark hr1 rfl (z6 (pv 3) z7)) (z6 (zp S.mark hr1 rfl (z6 (pv 3) z7)) z7)) rfl)
  (z8 (zk (qe S.put3 hr1 rfl (z6 (pv 2) (z6 zi (z6 (pv 5) z7)))))
  (z8 (zk (zp FD hr rfl (z6 (pv 0) (z6 (pv 1) (z6 (pv 2) (z6 (pv 3) (z6 (zJ qU (pv 4) zg) z7)))))))
  (z8 (zk (zp FD hr rfl (z6 (pv 0) (z6 (pv 1) (z6 (pv 2) (z6 (pv 3) (z6 zg z7)))))))
  (z8 (zk (qe S.put2 hr1 rfl (z6 (pv 2) (z6 zi z7))))
  (z8 (zk (qe S.put3 hr1 rfl (z6 (pv 2) (z6 zi (z6 (pv 6) z7)))))
  (z8 (zk (qe S.put3 hr1 rfl (z6 (pv 2) (z6 zi (z6 (pv 5) z7)))))
  (z8 (zk (qe S.put2 hr1 rfl (z6 (pv 2) (z6 (zp S.pick hr2 rfl (z6 (pv 0) (z6 (pv 1) (z6 (qu (z6 zi (z6 zi (z6 zi z7)))) z7)))) z7))))
  (z8 (zk (zp FD hr rfl (z6 (pv 0) (z6 (pv 1) (z6 (pv 2) (z6 (pv 3) (z6 zg z7)))))))
  (zc (zk (qe S.put3 hr1 rfl (z6 (pv 2) (z6 zi (z6 (pv 6) z7)))))))))))))) ,?_⟩
 try dsimp only [L2.cxOf,L2.Cx.nox]
 refine ⟨_,rfl,Jv g (by lia) fun H1 s1=>?_⟩
 refine ⟨_,rfl,Jv s1.gs (by have:=s1.k2;lia) fun H2 s2=>?_⟩
 refine ⟨_,_,rfl,?_⟩
 have t2:=s1.tick s2
 refine ⟨_,rfl,_,rfl,qb t2.gs (by have:=t2.len;lia) fun H3 s3=>?_⟩
 have t3:=t2.trans s3
 refine ⟨_,rfl,_,rfl,_,rfl,_,rfl,_,rfl,_,_,rfl,rfl,p,_,_,_,_,bD d,rfl,cd,t3.gs,(by have:=t3.c2;lia),(by have:=t3.len;lia),(by have:=t3.k2;lia),fun c4 n4 k4 H4 s4 g4 y4=>?_⟩
 have t4:=t3.trans s4
 refine ⟨_,rfl,_,rfl,_,rfl,_,rfl,p,_,_,_,_,92,rfl,cd0,t4.gs,(by have:=t4.c2;lia),(by have:=t4.len;lia),(by have:=t4.k2;lia),fun c5 n5 k5 H5 s5 g5 y5=>?_⟩
 have t5:=t4.trans s5
 refine ⟨_,rfl,qb t5.gs (by have:=t5.len;lia) fun H6 s6=>?_⟩
 have t6:=t5.trans s6
 refine ⟨_,rfl,_,rfl,qb t6.gs (by have:=t6.len;lia) fun H7 s7=>?_⟩
 have t7:=t6.trans s7
 refine ⟨_,rfl,_,rfl,qb t7.gs (by have:=t7.len;lia) fun H8 s8=>?_⟩
 have t8:=t7.trans s8
 refine ⟨_,rfl,_,rfl,_,rfl,by show 3≤sizeLine;decide,fun x hx=>?_⟩
 refine jQ t8.gs (by have:=t8.c2;lia) hx (by show 1≤3;decide) (by show 3≤1000;decide) fun v H9 hv s9=>?_
 obtain ⟨op,rfl,hb,hmem⟩:=z38 hv
 have t9:=t8.tick s9
 refine qb t9.gs (by have:=t9.len;lia) fun HA sA=>?_
 have tA:=t9.trans sA
 refine ⟨_,rfl,_,rfl,_,rfl,_,rfl,p,_,_,_,_,92,rfl,cd0,tA.gs,(by have:=tA.c2;lia),(by have:=tA.len;lia),(by have:=tA.k2;lia),fun cB nB kB HB sB gB yB=>?_⟩
 have tB:=tA.trans sB
 refine ⟨_,rfl,_,rfl,qb tB.gs (by have:=tB.len;lia) fun HC sC=>?_⟩
 have L2:=zK (ku t2.len (show _≤15000 by lia))
 have L5:=zK (ku t5.len (show _≤15000 by lia))
 have L6:=zK (ku t6.len (show _≤15000 by lia))
 have L7:=zK (ku t7.len (show _≤15000 by lia))
 have L9:=zK (ku t9.len (show _≤15000 by lia))
 have LB:=zK (ku tB.len (show _≤15000 by lia))
 refine q _ _ _ _ ((tB.trans sC).more (by lia)) ⟨(((((((((AllG.nil.app (AllG.one (Qg.rowG L2.1 L2.2))).app g4.row).app g5.row).app (AllG.one (Qm.rowG L5.1 L5.2))).app (AllG.one (qw.rowG L6.1 L6.2))).app (AllG.one (ja L7.1 L7.2))).app (AllG.one (hb.rowG L9.1 L9.2))).app gB.row).app (AllG.one (ja LB.1 LB.2))),fun m=>?_,fun m h=>?_,fun m h=>?_,fun m ha hb'=>?_⟩ (by
  have yy:=fun a b c e f g=>(Ty.tried (y4.app y5 s4.k1 s5.k1 (by decide)) yB (ku s4.k1 s5.k1) sB.k1 hmem a b c e f g).weak
  simp only [←kZ] at yy
  exact yy _ _ _ _ _ _)
 ·simp only [zY,qk,ql,Qg.noLab,qw.noLab,Qm.noLab,hb.noLab]
  have:=g4.lab1 m;have:=g4.labI m;have:=g5.lab1 m;have:=g5.labI m;have:=gB.lab1 m;have:=gB.labI m;have:=qi m k;have:=qi m (k+1);have:=s4.k1;have:=s5.k1
  lia
 ·simp only [zY,qk,ql,Qg.noLab,qw.noLab,Qm.noLab,hb.noLab] at h
  have:=g4.labI m;have:=g5.labI m;have:=gB.labI m;have:=qi m k;have:=qi m (k+1);have:=s4.k1;have:=s5.k1;have:=sB.k1
  lia
 ·simp only [Zn,ZZ,Q0,Qg.use,qw.use,Qm.noUse,hb.noUse] at h
  simp only [zY,qk,ql,Qg.noLab,qw.noLab,Qm.noLab,hb.noLab]
  have:=g4.useI m;have:=g5.useI m;have:=gB.useI m
  lia
 ·simp only [zY,qk,ql,Qg.noLab,qw.noLab,Qm.noLab,hb.noLab]
  have:=g4.labA m;have:=g5.labA m;have:=gB.labA m;have:=qi m k;have:=qi m (k+1)
  lia
end
section
theorem z7N:zj ["_law_script","_law_town_here","_law_rows","_law_marks","_law_deep","_law_way"] gps (zd (top 112)):=fsM
theorem z74 {n:Nat} (D:zo K mg "_law_deed" (top 112)) (S:jW P w K mg base) (FV:FN P w K mg base 9 "_law_value" gps (qH K (CV 3) 1 true)) (FC:FN P w K mg base (11+2 * n) "_law_choice" gps (qH K (CC n) 0 false)) (FR:FN P w K mg base (11+2 * n) "_law_round" gps (qH K (CC n) 0 false))
  (FT:FN P w K mg base (11+2 * n) "_law_tried" gps (qH K (CC n) 0 false)):FN P w K mg base (10+2 * (n+1)) "_law_deed" gps (qH K (CD (n+1)) 0 false):=by
 have:=FN.of (k:=11+2 * n) (sp:=qH K (CD (n+1)) 0 false) (P:=P) (w:=w) (base:=base) D z7N (fun _ _ _ _ _ _=>zU5 fun _ _ _ _ _=>rfl) jw (fun f cdv A outer s H vs Q E hr h=>?_)
 ·exact this.mono (by lia)
 obtain ⟨p,c,rs,k,e,B,rfl,⟨d,he,hd,hB⟩,g,bc,br,bk,q⟩:=h
 have hr1:=hr.mono (show 1≤11+2 * n by lia)
 have hr2:=hr.mono (show 2≤11+2 * n by lia)
 have hr9:=hr.mono (show 9≤11+2 * n by lia)
 have hb3:=z0P d
 refine ⟨_,z8 (zA (i:=5) z7N.nd rfl (Or.inl rfl) (qG (zl z0l (pv 4) zg (zn _)) (zp S.draw hr1 rfl (z6 (pv 0) (z6 (pv 1) (z6 zg z7)))) (zp S.draw hr1 rfl (z6 (pv 0) (z6 (pv 1) (z6 zg z7))))))
  (zc (zD (zl Qj (pv 5) zg (zn _))
   (z8 (zk (zp FV hr9 rfl (z6 (pv 0) (z6 (pv 1) (z6 (pv 2) (z6 (pv 3) (z6 zg z7)))))))
    (zc (zk (qe S.put3 hr1 rfl (z6 (pv 2) (z6 zi (z6 (zp S.pick hr2 rfl (z6 (pv 0) (z6 (pv 1) (z6 (qu (z6 zi (z6 zi (z6 zi z7)))) z7)))) z7)))))))
  (zc (zD (zl zT (pv 5) zg (zn _))
   (z8 (zk (zp FV hr9 rfl (z6 (pv 0) (z6 (pv 1) (z6 (pv 2) (z6 (pv 3) (z6 zg z7)))))))
    (zc (zk (qe S.put2 hr1 rfl (z6 (pv 2) (z6 zi z7))))))
  (zc (zD (zl zT (pv 5) zg (zn _))
   (zc (zk (qe S.put3 hr1 rfl (z6 (pv 2) (z6 zi (z6 (zp S.pick hr2 rfl (z6 (pv 0) (z6 (pv 1) (z6 (qu (z6 zi (z6 zi z7))) z7)))) z7))))))
  (zc (zD (zl Qj (pv 5) zg (zn _))
   (zc (zk (zp FC hr rfl (z6 (pv 0) (z6 (pv 1) (z6 (pv 2) (z6 (pv 3) (z6 (pv 4) z7))))))))
  (zc (zD (zl Qj (pv 5) zg (zn _))
   (zc (zk (zp FR hr rfl (z6 (pv 0) (z6 (pv 1) (z6 (pv 2) (z6 (pv 3) (z6 (pv 4) z7))))))))
  (zc (zD (zl zT (pv 5) zg (zn _))
   (zc (zk (zp FT hr rfl (z6 (pv 0) (z6 (pv 1) (z6 (pv 2) (z6 (pv 3) (z6 (pv 4) z7))))))))
   (z8 (zk (zp FV hr9 rfl (z6 (pv 0) (z6 (pv 1) (z6 (pv 2) (z6 (pv 3) (z6 zg z7)))))))
    (zc (zk (qe S.put2 hr1 rfl (z6 (pv 2) (z6 zi z7)))))))))))))))))) ,?_⟩
 try dsimp only [L2.cxOf,L2.Cx.nox]
 refine ⟨_,rfl,_,_,rfl,rfl,_,rfl,?_⟩
 refine ite2 (fun c0=>?_) (fun c0=>?_)
 all_goals
  refine ⟨_,rfl,_,rfl,jR g (by lia) (by decide) (by decide) fun i H1 i0 i1 s1=>?_⟩
  have i12:i < 10:=by lia
  have i4:e≤0→i < 4:=fun z=>by
   first
    | exact i1
    | (have:=kE c0;lia)
  have l1:=s1.len
  refine ⟨_,rfl,_,_,rfl,rfl,_,rfl,?_⟩
  refine ite2 (fun c1=>?_) (fun c1=>?_)
  ·refine ⟨_,rfl,_,rfl,_,rfl,_,rfl,p,_,_,_,_,31,rfl,cv1,s1.gs,(by have:=s1.c2;lia),(by lia),(by have:=s1.k2;lia),fun c4 n4 k4 H4 s4 g4 y4=>?_⟩
   have t4:=s1.trans s4
   refine ⟨_,rfl,_,rfl,_,rfl,by show 3≤sizeLine;decide,fun x hx=>?_⟩
   refine jQ t4.gs (by have:=t4.c2;lia) hx (by show 1≤3;decide) (by show 3≤1000;decide) fun v H5 hv s5=>?_
   have t5:=t4.tick s5
   refine qb t5.gs (by have:=t5.len;lia) fun H6 s6=>?_
   have L:=zK (ku t5.len (show _≤15000 by lia))
   exact q _ _ _ _ ((t5.trans s6).more (by lia)) (((Good.nil k).app g4 (ke _) s4.k1).put t4.k1 (z7g hv) L.1 L.2) ((y4.row (Zo _ (by simp)) (by decide) _ _).cast (by decide)).weak
  ·refine ⟨_,rfl,rfl,_,rfl,?_⟩
   refine ite2 (fun c2=>?_) (fun c2=>?_)
   ·refine ⟨_,rfl,_,rfl,_,rfl,_,rfl,p,_,_,_,_,87,rfl,cv2,s1.gs,(by have:=s1.c2;lia),(by lia),(by have:=s1.k2;lia),fun c4 n4 k4 H4 s4 g4 y4=>?_⟩
    have t4:=s1.trans s4
    refine ⟨_,rfl,qb t4.gs (by have:=t4.len;lia) fun H6 s6=>?_⟩
    have L:=zK (ku t4.len (show _≤15000 by lia))
    exact q _ _ _ _ ((t4.trans s6).more (by lia)) (((Good.nil k).app g4 (ke _) s4.k1).put t4.k1 z44 L.1 L.2) ((y4.row (Zo _ (by simp)) (by decide) _ _).cast (by decide)).weak
   ·refine ⟨_,rfl,rfl,_,rfl,?_⟩
    refine ite2 (fun c3=>?_) (fun c3=>?_)
    ·refine ⟨_,rfl,_,rfl,_,rfl,by show 2≤sizeLine;decide,fun x hx=>?_⟩
     refine jQ s1.gs (by have:=s1.c2;lia) hx (by show 1≤2;decide) (by show 2≤1000;decide) fun v H5 hv s5=>?_
     have t5:=s1.tick s5
     refine qb t5.gs (by have:=t5.len;lia) fun H6 s6=>?_
     have L:=zK (ku t5.len (show _≤15000 by lia))
     exact q _ _ _ _ ((t5.trans s6).more (by lia)) ((Good.nil k).put (ke _) (z7h hv) L.1 L.2) (((Ty.nil k).row z4p (by decide) _ _).cast (by decide)).weak
    ·have d1:¬i < 2:=fun z=>c1 (ki z)
     have d2:¬i=2:=fun z=>c2 (by rw [z];rfl)
     have d3:¬i=3:=fun z=>c3 (by rw [z];rfl)
     have e0:¬e≤0:=fun z=>by have:=i4 z;lia
     obtain ⟨d',rfl⟩:∃d',d=d'+1:=⟨d - 1,by lia⟩
     have eB:bD (d'+1)=2 * bD d'+200:=rfl
     have cc:CC n e (2 * bD d'+150):=⟨d',by lia,by lia,rfl⟩
     refine ⟨_,rfl,_,_,rfl,rfl,_,rfl,?_⟩
     refine ite2 (fun c4=>?_) (fun c4=>?_)
     ·refine ⟨_,rfl,_,rfl,_,rfl,_,rfl,_,rfl,p,_,_,_,_,_,rfl,cc,s1.gs,(by have:=s1.c2;lia),(by lia),(by have:=s1.k2;lia),fun c4 n4 k4 H4 s4 g4 y4=>?_⟩
      exact q _ _ _ _ ((s1.trans s4).more (by lia)) ((Good.nil k).app g4 (ke _) s4.k1) y4
     ·refine ⟨_,rfl,_,_,rfl,rfl,_,rfl,?_⟩
      refine ite2 (fun c5=>?_) (fun c5=>?_)
      ·refine ⟨_,rfl,_,rfl,_,rfl,_,rfl,_,rfl,p,_,_,_,_,_,rfl,cc,s1.gs,(by have:=s1.c2;lia),(by lia),(by have:=s1.k2;lia),fun c4 n4 k4 H4 s4 g4 y4=>?_⟩
       exact q _ _ _ _ ((s1.trans s4).more (by lia)) ((Good.nil k).app g4 (ke _) s4.k1) y4
      ·refine ⟨_,rfl,rfl,_,rfl,?_⟩
       refine ite2 (fun c6=>?_) (fun c6=>?_)
       ·refine ⟨_,rfl,_,rfl,_,rfl,_,rfl,_,rfl,p,_,_,_,_,_,rfl,cc,s1.gs,(by have:=s1.c2;lia),(by lia),(by have:=s1.k2;lia),fun c4 n4 k4 H4 s4 g4 y4=>?_⟩
        exact q _ _ _ _ ((s1.trans s4).more (by lia)) ((Good.nil k).app g4 (ke _) s4.k1) y4
       ·refine ⟨_,rfl,_,rfl,_,rfl,_,rfl,p,_,_,_,_,3,rfl,cv0,s1.gs,(by have:=s1.c2;lia),(by lia),(by have:=s1.k2;lia),fun c4 n4 k4 H4 s4 g4 y4=>?_⟩
        have t4:=s1.trans s4
        refine ⟨_,rfl,qb t4.gs (by have:=t4.len;lia) fun H6 s6=>?_⟩
        have L:=zK (ku t4.len (show _≤15000 by lia))
        exact q _ _ _ _ ((t4.trans s6).more (by lia)) (((Good.nil k).app g4 (ke _) s4.k1).put t4.k1 z45 L.1 L.2) (Ty.rais y4 _)
theorem z1T {k:Nat} {rs:List Row} (h:∃Γl:Int→Option Sta,∀Γ,Ext Γ Γl 0 k→chk Γ rs (some (0,[]))=some none):∃Γ:Int→Option Sta,(∀m,Γ m≠none→0≤m∧m < (k:Int))∧chk Γ rs (some (0,[]))=some none:=by
 obtain ⟨Γl,q⟩:=h
 refine ⟨fun m=>if 0≤m∧m < (k:Int) then Γl m else none,fun m hm=>?_,q _ fun m _ hm=>kC ⟨by lia,by lia⟩⟩
 by_cases z:0≤m∧m < (k:Int)
 ·exact z
 ·exact absurd (kz z) hm
theorem z5X:∃Γ:Int→Option Sta,(∀m,Γ m≠none→0≤m∧m < ((0:Nat):Int))∧chk Γ [⟨"load",.str "a",7⟩,⟨"return",.non,8⟩] (some (0,[]))=some none:=
 z1T ((Ty.nil 0).whole (((Ty.nil 0).row z37 (by decide) (.str "a") 7).cast (by decide)) (ke _) (ke _) 8 (by decide))
theorem z1W (DD:zo K mg "_law_deed" (top 112)) (DC:zo K mg "_law_choice" (top 113)) (DR:zo K mg "_law_round" (top 114)) (DT:zo K mg "_law_tried" (top 115)) (S:jW P w K mg base) (FV:FN P w K mg base 9 "_law_value" gps (qH K (CV 3) 1 true)):
  ∀n,FN P w K mg base (10+2 * n) "_law_deed" gps (qH K (CD n) 0 false)
 | 0=>z1V DD (fun _ _ _ _ _ _=>zU5 fun _ _ _ _ _=>rfl) fun e B ⟨d,_,h,_⟩=>absurd h (Nat.not_lt_zero _)
 | n+1=>by
  have ih:=z1W DD DC DR DT S FV n
  exact z74 DD S FV (z3J DC S FV ih) (z4U DR S FV ih) (z4S DT S ih)
def z0b (K:ky):Sp:=fun vs H Q _=>∃(a t:Addr) (ns:List Int) (c:Nat) (cells:List Int) (many:Int),vs=[.ref a,.ref t,.int many]∧Scr K H a (ns.map V.int)∧ns.length≤1000∧cells.length=ns.length∧H t=some (.lst (j5 c cells))∧c≤100∧1≤many∧many≤12∧
 ∀(l:Addr) (as:List Addr) (rs:List Row) (k c':Nat) (cells':List Int) H',H' l=some (.lst (as.map V.ref))→zS H' as rs→Good 0 k rs→(∃Γ:Int→Option Sta,(∀m,Γ m≠none→0≤m∧m < (k:Int))∧chk Γ rs (some (0,[]))=some none)→k≤90→1≤rs.length→rs.length≤140→l≠t→cells'.length=ns.length→H' t=some (.lst (j5 c' cells'))→c'≤14000→qW H H' t→Q (.ref l) H'
theorem z4k:zj ["_law_script","_law_town_here","_law_many","_law_rows","_law_marks","_law_k"] ["_law_script","_law_town_here","_law_many"] (zd (top 116)):=fsM
theorem cd2:CD 3 2 968:=⟨2,rfl,by decide,rfl⟩
theorem z2x (D:zo K mg "_law_code" (top 116)) (G:Glo mg) (S:jW P w K mg base) (FV:FN P w K mg base 9 "_law_value" gps (qH K (CV 3) 1 true)) (FD:FN P w K mg base 16 "_law_deed" gps (qH K (CD 3) 0 false)):FN P w K mg base 17 "_law_code" ["_law_script","_law_town_here","_law_many"] (z0b K):=by
 refine FN.o D z4k fun f cdv A outer s H vs Q E hr h=>?_
 obtain ⟨a,t,ns,c,cells,many,rfl,hS,hns,hcl,hT,hc,hm1,hm2,q⟩:=h
 have hr1:=hr.mono (show 1≤16 by decide)
 have hr9:=hr.mono (show 9≤16 by decide)
 refine ⟨_,z8 (zA (i:=3) z4k.nd rfl (Or.inl rfl) (qu z7))
  (z8 (zA (i:=4) z4k.nd rfl (Or.inl rfl) (qu z7))
  (z8 (ZE PassesOwn.never rfl (ZG rfl G.range (z6 (zJ qV zg (zp S.draw hr1 rfl (z6 (pv 0) (z6 (pv 1) (z6 (pv 2) z7))))) z7)) (zB (i:=5) z4k.nd rfl (Or.inl rfl))
   (zc (zD (zl Qj (zy zQ rfl G.len qt (z6 (pv 3) z7)) zg (zn _))
    (zc (zk (zp FD hr rfl (z6 (pv 0) (z6 (pv 1) (z6 (pv 3) (z6 (pv 4) (z6 zg z7)))))))) zu)))
  (z8 (zk (zp FV hr9 rfl (z6 (pv 0) (z6 (pv 1) (z6 (pv 3) (z6 (pv 4) (z6 zg z7)))))))
  (z8 (zk (qe S.put2 hr1 rfl (z6 (pv 3) (z6 zi z7))))
  (z8 (zD (PW.pt (Qz (zl z0l (zy zQ rfl G.len qt (z6 (pv 3) z7)) zg (zn _)) (Zj (zl z0l (zy zQ rfl G.len qt (z6 (pv 4) z7)) zg (zn _)))))
   (zc (zm (qu (z6 (zE (z6 zi (z6 zi (z6 zg z7)))) (z6 (zE (z6 zi (z6 qc (z6 zg z7)))) z7))))) zu)
  (zc (zm (pv 3)))))))),?_⟩
 try dsimp only [L2.cxOf,L2.Cx.nox]
 refine ⟨by show 0≤sizeLine;decide,fun r hr0=>⟨by show 0≤sizeLine;decide,fun m hm0=>?_⟩⟩
 have sr:Same H (upd H r (.lst [])):=zh hr0 _
 have sm:Same (upd H r (.lst [])) (upd (upd H r (.lst [])) m (.lst [])):=zh hm0 _
 have rm:r≠m:=ze (H:=upd H r (.lst [])) zb hm0
 have tr:t≠r:=ze hT hr0
 have tm:t≠m:=ze (sr _ _ hT) hm0
 have s02:=sr.trans sm
 generalize hH2:upd (upd H r (.lst [])) m (.lst [])=H2 at *
 have hr2:H2 r=some (.lst []):=by rw [←hH2,zf rm];exact zb
 have hm2':H2 m=some (.lst []):=by rw [←hH2];exact zb
 have g:GS K H2 ⟨a,t,r,m,ns⟩ c [] 0:=⟨hS.keep fun o u e=>s02 _ _ e,hns,⟨cells,hcl,s02 _ _ hT⟩,⟨[],hr2,.nil⟩,hm2',tr,tm,rm⟩
 generalize hp:(⟨a,t,r,m,ns⟩:Pl)=p at *
 have pa:p.a=a:=by rw [←hp]
 have pt:p.t=t:=by rw [←hp]
 have pr:p.r=r:=by rw [←hp]
 have pm:p.m=m:=by rw [←hp]
 have pn:p.ns=ns:=by rw [←hp]
 subst pa pt pr pm pn
 clear hp
 refine ⟨_,rfl,_,rfl,_,rfl,jR g (by lia) (by lia) (by lia) fun j H3 j0 j1 s3=>?_⟩
 refine ⟨_,_,rfl,rfl,1+j,rfl,by lia,by lia,ZR (lo:=0) (n:=(1+j).toNat) (fun i σ H4=>∃v c' new k',σ=[some (.ref p.a),some (.ref p.t),some (.int many),some (.ref p.r),some (.ref p.m),v]∧Step K H2 H4 p c [] 0 c' new k' (1+968 * i)∧Good 0 k' new∧Ty 0 false 0 k' new)
  ⟨none,_,_,_,rfl,s3,Good.nil 0,(Ty.nil 0).weak⟩ ?_ ?_⟩
 ·rintro i σ H4 hi ⟨v,c',new,k',rfl,st,gd,ty⟩
  have hin:i < 12:=by lia
  have l:=st.len
  obtain ⟨as,h3,h4⟩:=st.gs.rows
  refine ⟨_,rfl,p.r,_,rfl,.inl (SqL.of h3),_,_,rfl,rfl,_,rfl,?_⟩
  refine ite2 (fun c4=>?_) (fun c4=>?_)
  ·refine ⟨_,rfl,_,rfl,_,rfl,_,rfl,p,_,_,_,_,968,rfl,cd2,st.gs,(by have:=st.c2;lia),(by simp at l ⊢;lia),(by have:=st.k2;lia),fun c5 n5 k5 H5 s5 g5 y5=>?_⟩
   exact ⟨_,c5,new++n5,k5,rfl,(st.trans s5).more (by lia),gd.app g5 (Nat.zero_le _) s5.k1,(ty.app y5 (Nat.zero_le _) s5.k1 (by decide)).cast (by decide)⟩
  ·exact ⟨_,c',new,k',rfl,st.more (by lia),gd,ty⟩
 rintro σ H4 ⟨v4,c4,n4,k4,rfl,t4,g4,y4⟩
 have t4:=t4.more (show _≤11617 by lia)
 refine ⟨_,rfl,_,rfl,_,rfl,_,rfl,p,_,_,_,_,31,rfl,cv1,t4.gs,(by have:=t4.c2;lia),(by have:=t4.len;simp at this ⊢;lia),(by have:=t4.k2;lia),fun c5 n5 k5 H5 s5 g5 y5=>?_⟩
 have t5:=t4.trans s5
 refine ⟨_,rfl,qb t5.gs (by have:=t5.len;simp at this ⊢;lia) fun H6 s6=>?_⟩
 have t6:=t5.trans s6
 have L5:=zK (ku t5.len (show _≤15000 by simp))
 have g6:=(g4.app g5 (Nat.zero_le _) s5.k1).put (Nat.zero_le _) z22 L5.1 L5.2
 have cK:n4.length+n5.length≤998→∃Γ:Int→Option Sta,(∀m,Γ m≠none→0≤m∧m < (k5:Int))∧chk Γ (n4++n5++[(⟨Str.ofString "return",.non,10+(([]++(n4++n5):List Row).length:Int) / 2⟩:Row)]) (some (0,[]))=some none:=fun hz=>z1T (y4.whole y5 (Nat.zero_le _) s5.k1 _ hz)
 have hlen:(n4++n5++[(⟨Str.ofString "return",.non,10+(([]++(n4++n5):List Row).length:Int) / 2⟩:Row)]).length=n4.length+n5.length+1:=by rw [kl,kl];rfl
 generalize hn:n4++n5++[(⟨Str.ofString "return",.non,10+(([]++(n4++n5):List Row).length:Int) / 2⟩:Row)]=nn at *
 have hpos:1≤nn.length:=by rw [←hn];simp only [kl,kQ,List.length_nil,kH];lia
 obtain ⟨as,h3,h4⟩:=t6.gs.rows
 have hal:(as.map V.ref).length=nn.length:=by rw [kj,h4.len];rfl
 obtain ⟨cells',hl',hT'⟩:=t6.gs.town
 have hc6:=t6.c2
 have kp:qW H H6 p.t:=fun b o e hb=>t6.keep b o (s02 _ _ e) hb (ze e hr0) (fun z=>by
  have:=sr _ _ e
  rw [z,hm0] at this
  cases this)
 have two:∀H7,Same H6 H7→∀x y l,H7 x=some (.tup [.str "load",.str "a",.int 7])→H7 y=some (.tup [.str "return",.non,.int 8])→H7 l=some (.lst [.ref x,.ref y])→l≠p.t→Q (.ref l) H7:=fun H7 s7 x y l hx hy hl hlt=>by
  have b1:Bare "load" (.str "a"):=z5R (by simp)
  refine q l [x,y] [⟨"load",.str "a",7⟩,⟨"return",.non,8⟩] 0 _ cells' H7 hl (.cons hx (.cons hy .nil)) ?_ z5X (by decide) (by simp) (by simp) hlt hl' (s7 _ _ hT') (by lia) fun b o e hb=>s7 _ _ (kp b o e hb)
  exact (b1.good (by decide) (by decide) 0).put (ke _) z22 (by decide) (by decide)
 have fin:nn.length≤140→k5≤90→Q (.ref p.r) H6:=fun h1 h2=>q p.r as nn k5 _ cells' H6 h3 h4 g6 (cK (by lia)) h2 hpos h1 g.tr.symm hl' hT' (by lia) kp
 refine ⟨_,rfl,p.r,_,rfl,.inl (SqL.of h3),_,_,rfl,rfl,_,rfl,?_⟩
 have qC:tTup (jr (tC (.str "load")) (jr (tC (.str "a")) (jr (tC (.int 7)) tNil))) [some (.ref p.a),some (.ref p.t),some (.int many),some (.ref p.r),some (.ref p.m),v4] H6 (fun x H7=>tTup (jr (tC (.str "return")) (jr (tC .non) (jr (tC (.int 8)) tNil))) [some (.ref p.a),some (.ref p.t),some (.int many),some (.ref p.r),some (.ref p.m),v4] H7 fun y H8=>[x,y].length≤sizeLine∧∀l,H8 l=none→Q (.ref l) (upd H8 l (.lst [x,y]))):=by
  refine ⟨by show 3≤sizeLine;decide,fun x hx=>⟨by show 3≤sizeLine;decide,fun y hy=>⟨by show 2≤sizeLine;decide,fun l hl=>?_⟩⟩⟩
  have sx:Same H6 (upd H6 x (.tup [.str "load",.str "a",.int 7])):=zh hx _
  have sy:=zh hy (.tup [.str "return",.non,.int 8])
  have sl:=zh hl (.lst [.ref x,.ref y])
  refine two _ (sx.trans (sy.trans sl)) x y l (sl _ _ (sy _ _ zb)) (sl _ _ zb) zb ?_
  exact (ze (sy _ _ (sx _ _ hT')) hl).symm
 refine ite2 (fun c1=>?_) (fun c1=>?_)
 ·exact iteT qC
 ·have hn1:nn.length≤140:=by
   rw [hal] at c1
   have:¬((140:Int) < (nn.length:Int)):=fun z=>c1 (ki z)
   lia
  refine ⟨_,rfl,p.m,_,rfl,.inl (SqL.of t6.gs.marks),_,_,rfl,rfl,_,rfl,?_⟩
  refine ite2 (fun c2=>qC) (fun c2=>?_)
  rw [Q5] at c2
  have hk:k5≤90:=by
   have:¬((90:Int) < (k5:Int)):=fun z=>c2 (ki z)
   lia
  exact ⟨_,rfl,fin hn1 hk⟩
end
set_option autoImplicit false
set_option linter.unusedVariables false
theorem ZS {p:Row→Bool}:∀(l:List Row) (i:Nat) (r:Row),l[i]?=some r→p r=true→l.countP p≤1→l.findIdx? p=some i
 | [],_,_,h,_,_=>by simp at h
 | x :: l,0,r,h,hp,_=>by
  have e:x=r:=by simpa using h
  rw [List.findIdx?_cons,e,kC hp]
 | x :: l,i+1,r,h,hp,hc=>by
  have h':l[i]?=some r:=by simpa using h
  have hm:=kI h'
  have hpos:0 < l.countP p:=List.countP_pos_iff.mpr ⟨r,hm,hp⟩
  rw [List.countP_cons] at hc
  have hx:¬p x=true:=fun e=>by rw [kC e] at hc;lia
  rw [kz hx] at hc
  rw [List.findIdx?_cons,kz hx,ZS l i r h' hp hc]
  rfl
theorem z0E {p:Row→Bool} {l:List Row} (h:l.countP p≠0):(l.findIdx? p).isSome=true:=by
 rw [List.findIdx?_isSome,List.any_eq_true]
 have:0 < l.countP p:=by lia
 obtain ⟨r,h1,h2⟩:=List.countP_pos_iff.mp this
 exact ⟨r,h1,h2⟩
theorem Good.mark {k:Nat} {rs:List Row} (g:Good 0 k rs) {r:Row} (hr:r∈rs) (hs:qa r.op=some ("mark":Str)) {m:Nat} (hm:r.arg=.int (m:Int)):lab m rs≠0:=by
 by_cases c:r.op="label"
 ·have:0 < rs.countP (JM m):=List.countP_pos_iff.mpr ⟨r,hr,by unfold JM;rw [ki c,ki hm];rfl⟩
  unfold lab
  lia
 ·refine g.useI m ?_
  have:0 < rs.countP (JL m):=List.countP_pos_iff.mpr ⟨r,hr,by unfold JL;rw [ki hs,ki c,ki hm];rfl⟩
  unfold use
  lia
theorem Good.push {k:Nat} {rs:List Row} (g:Good 0 k rs):∀r∈rs,r.op="push"→okV r.arg=true:=fun r hr=>by
 obtain ⟨_,_,_,_,h,_⟩:=g.row r hr
 exact h
theorem Good.typed {k:Nat} {rs:List Row} (g:Good 0 k rs) (h:∃Γ:Int→Option Sta,(∀m,Γ m≠none→0≤m∧m < (k:Int))∧chk Γ rs (some (0,[]))=some none):∃S,jN rs S:=by
 obtain ⟨Γ,h1,h2⟩:=h
 refine ⟨_,z4c (fun m s e=>?_) h2⟩
 obtain ⟨a,b⟩:=h1 m (by rw [e];nofun)
 obtain ⟨j,rfl⟩:=yb a
 exact z0E (g.labA j (Nat.zero_le _) (by lia))
theorem Good.code {k:Nat} {rs:List Row} (g:Good 0 k rs) (hk:k≤90) (h1:1≤rs.length) (h2:rs.length≤150):Code rs:=by
 refine ⟨fun r hr=>?_,fun i r hi=>?_,h1,h2⟩
 ·obtain ⟨s,hs,l0,l1,_,h⟩:=g.row r hr
  have hf:jj s r.arg=true:=by
   rcases h with ⟨rfl,m,hm⟩ | ⟨_,hf⟩
   ·have:=(g.labI m (g.mark hr hs hm)).2
    rw [hm]
    exact Zr (lo:=0) (hi:=99) (fun x=>by rfl) (by lia) (by lia)
   ·exact hf
  show rowV r.op r.arg (.int r.line)=true
  unfold rowV Zu
  rw [hs]
  show (true&&jj s r.arg&&qQ (.int r.line) 0 9999)=true
  rw [hf]
  show qQ (.int r.line) 0 9999=true
  show (decide (0≤r.line)&&decide (r.line≤9999))=true
  rw [ki l0,ki l1]
  rfl
 ·have hr:=kI hi
  obtain ⟨s,hs,l0,l1,_,h⟩:=g.row r hr
  unfold jG
  by_cases c:r.op="label"
  ·rw [kC c]
   have e:s="mark":=by
    rw [c,Zg] at hs
    exact (kD hs).symm
   rcases h with ⟨_,m,hm⟩ | ⟨hn,_⟩
   ·rw [hm]
    show decide (zw rs (m:Int)=some i)=true
    exact ki (ZS rs i r hi (by show (decide (r.op="label")&&decide (r.arg=.int (m:Int)))=true;rw [ki c,ki hm];rfl) (g.lab1 m))
   ·exact absurd e hn
  ·rw [kz c]
   by_cases c2:qa r.op=some ("mark":Str)
   ·rw [kC c2]
    have e:s="mark":=by
     rw [c2] at hs
     exact (kD hs).symm
    rcases h with ⟨_,m,hm⟩ | ⟨hn,_⟩
    ·rw [hm]
     exact z0E (g.mark hr c2 hm)
    ·exact absurd e hn
   ·rw [kz c2]
section
def z5s (K:ky):Sp:=fun vs H Q _=>∃(a:Addr) (ns:List Int),vs=[.ref a]∧Scr K H a (ns.map V.int)∧ns.length≤1000∧∀t H',Same H H'→H t=none→H' t=some (.lst (j5 0 ns))→Q (.ref t) H'
theorem z9k:zj ["_law_script"] ["_law_script"] (zd (top 102)):=fsM
theorem z6G (D:zo K mg "_law_town" (top 102)) (G:Glo mg):FN P w K mg base 1 "_law_town" ["_law_script"] (z5s K):=by
 refine FN.o D z9k fun f cdv A outer s H vs Q E hr h=>?_
 obtain ⟨a,ns,rfl,hS,hn,q⟩:=h
 refine ⟨_,zc (zm (zJ z3f (qu (z6 zg z7)) (ji jH rfl G.list jM (z6 (pv 0) z7)))),?_⟩
 try dsimp only [L2.cxOf,L2.Cx.nox]
 refine ⟨by show 1≤sizeLine;decide,fun p hp=>?_⟩
 have sp:=zh hp (.lst [.int 0])
 refine ⟨_,rfl,a,ns.map V.int,rfl,.inl (hS.keep fun o u e=>sp _ _ e).sq,fun l hl=>?_⟩
 have sl:=zh hl (.lst (ns.map V.int))
 have npl:p≠l:=ze (H:=upd H p (.lst [.int 0])) zb hl
 refine ⟨p,l,[.int 0],ns.map V.int,rfl,rfl,sl _ _ zb,zb,?_,fun t ht=>?_⟩
 ·rw [kj,sizeLine_eq]
  show 1+ns.length≤_
  lia
 ·have st:=zh ht (.lst ([.int 0]++ns.map V.int))
  refine q t _ ((sp.trans sl).trans st) ?_ zb
  cases e:H t with
  | none=>rfl
  | some o=>rw [(sp.trans sl) _ _ e] at ht;cases ht
theorem z3h {v:V} (h:okV v=true):J3 v 1000000000000000000=true:=by
 unfold J3
 cases v with
 | non=>rfl
 | bl b=>rfl
 | int i=>
  have hb:big i=false:=by simpa [okV] using h
  have h1:¬1000000000000000000 < i.natAbs:=of_decide_eq_false hb
  have:qQ (.int i) (-1000000000000000000) 1000000000000000000=true:=by
   show (decide (-1000000000000000000≤i)&&decide (i≤1000000000000000000))=true
   rw [ki (by lia),ki (by lia)]
   rfl
  rw [this]
  simp
 | str z=>
  rw [(Zh z (kE h)).2]
  simp
 | _=>cases h
theorem QT {i:Int} (h:big i=false):Zx (.int i):=by
 have h1:¬1000000000000000000 < i.natAbs:=of_decide_eq_false h
 refine ⟨rfl,?_,?_⟩
 ·show (PyData.int i).showable=true
  simp only [PyData.showable]
  have:i.natAbs.log2 < 1920:=by
   by_cases z:i.natAbs=0
   ·rw [z];decide
   ·have h2:=(Nat.log2_lt z (k:=64)).mpr (by lia)
    lia
  exact ki this
 ·have e:=int_text_length_le10 (a:=i) (k:=19) (by decide) (by lia)
  show ((PyData.int i).shown).length≤60
  simp only [PyData.shown]
  rw [PySem.ofString_length]
  lia
theorem QS:∀z∈(["Oops","Zero","Unset","Type","Big","on","value","fault"]:List Str),(qM (.str z)).showable=true∧(qM (.str z)).shown.length≤60:=by trivial
theorem ZV {z:Str} (h:z∈(["Oops","Zero","Unset","Type","Big","on","value","fault"]:List Str)):Zx (.str z):=⟨rfl,(QS z h).1,(QS z h).2⟩
theorem Jl {z:Str} (h:z∈j3):Zx (.str z):=by
 refine ZV ?_
 unfold j3 at h
 simp only [kF,kq,or_false] at h ⊢
 rcases h with h | h | h | h | h <;> simp [h]
theorem QG {v:V} (h:okV v=true):Zx v:=by
 cases v with
 | non=>exact ⟨rfl,by trivial,by trivial⟩
 | bl b=>cases b <;> exact ⟨rfl,by trivial,by trivial⟩
 | int i=>exact QT (by simpa [okV] using h)
 | str z=>exact Jl (kE h)
 | _=>cases h
theorem z43 {e:List V} (h:e=onE∨z03 e):(∀x∈e,Zx x)∧e.length≤10:=by
 rcases h with rfl | ⟨_,⟨v,rfl,hv⟩ | ⟨k,l,rfl,hk,h0,h1⟩⟩
 ·refine ⟨fun x hx=>?_,by decide⟩
  rw [ko.mp hx]
  exact ZV (by simp)
 ·refine ⟨fun x hx=>?_,by simp⟩
  simp only [kF,kq,or_false] at hx
  rcases hx with rfl | rfl
  ·exact ZV (by simp)
  ·exact QG hv
 ·refine ⟨fun x hx=>?_,by simp⟩
  simp only [kF,kq,or_false] at hx
  rcases hx with rfl | rfl | rfl
  ·exact ZV (by simp)
  ·exact Jl hk
  ·exact QT (kh (by lia))
structure Zc (n:Nat) (kvs:List (Key × V)):Prop where
 len:kvs.length≤n
 all:∀q∈kvs,(∃nm:Str,q.1=Sum.inr nm∧nm∈(["a","b","c"]:List Str))∧okV q.2=true
theorem z1j:∀nm∈(["a","b","c"]:List Str),nm.length≤4∧JF (.str nm)=true:=by trivial
theorem Zc.names {kvs:List (Key × V)} (h:Zc 3 kvs):QZ kvs:=by
 refine ⟨by have:=h.len;lia,fun p hp=>?_⟩
 obtain ⟨⟨nm,e,hn⟩,hv⟩:=h.all p hp
 obtain ⟨h1,h2⟩:=z1j nm hn
 exact ⟨nm,e,by rw [sizeLine_eq];lia,h2,jl (jF hv),z3h hv⟩
theorem Zc.put {n:Nat} {kvs:List (Key × V)} (h:Zc n kvs) {nm:Str} (hn:nm∈(["a","b","c"]:List Str)) {v:V} (hv:okV v=true):Zc (n+1) (putK kvs (Sum.inr nm) v):=by
 refine ⟨by have:=(z33 (kvs:=kvs) (k:=(Sum.inr nm:Key)) (v:=v) (fun q hq=>(h.all q hq).2) hv).2;have:=h.len;lia,fun q hq=>⟨?_,(z33 (fun q hq=>(h.all q hq).2) hv).1 q hq⟩⟩
 unfold putK at hq
 split at hq
 ·obtain ⟨p,hp,rfl⟩:=yh.mp hq
  split
  ·exact (h.all p hp).1
  ·exact (h.all p hp).1
 ·rcases kW.mp hq with z | z
  ·exact (h.all q z).1
  ·rw [ko.mp z]
   exact ⟨nm,rfl,hn⟩
def z2T (K:ky):Sp:=fun vs H Q _=>∃(a t:Addr) (ns:List Int) (c:Nat) (cells:List Int),vs=[.ref a,.ref t]∧Scr K H a (ns.map V.int)∧ns.length≤1000∧cells.length=ns.length∧H t=some (.lst (j5 c cells))∧c≤90000∧
 ∀(d:Addr) (kvs:List (Key × V)) (c':Nat) (cells':List Int) H',H' d=some (.dK kvs)→Zc 3 kvs→cells'.length=ns.length→H' t=some (.lst (j5 c' cells'))→c'≤c+6→qW H H' t→Q (.ref d) H'
theorem z6d:zj ["_law_script","_law_town_here","_law_found","_law_name"] ["_law_script","_law_town_here"] (zd (top 117)):=fsM
def GivW (H:Hp) (a t d:Addr) (ns:List Int) (c:Nat) (tp:Addr) (i:Nat) (σ:L2.St) (H2:Hp):Prop:=∃(v:Option V) (kvs:List (Key × V)) (c2:Nat) (cells2:List Int),σ=[some (.ref a),some (.ref t),some (.ref d),v]∧H2 d=some (.dK kvs)∧Zc i kvs∧cells2.length=ns.length∧H2 t=some (.lst (j5 c2 cells2))∧c2≤c+2 * i∧qW H H2 t∧H2 tp=some (.tup [.str "a",.str "b",.str "c"])
theorem z55 (D:zo K mg "_law_given" (top 117)) (S:jW P w K mg base):FN P w K mg base 4 "_law_given" ["_law_script","_law_town_here"] (z2T K):=by
 refine FN.o D z6d fun f cdv A outer s H vs Q E hr h=>?_
 obtain ⟨a,t,ns,c,cells,rfl,hS,hns,hcl,hT,hc,q⟩:=h
 have hr1:=hr.mono (show 1≤3 by decide)
 have hu:=Zq hr
 refine ⟨_,z8 (zA (i:=2) z6d.nd rfl (Or.inl rfl) Jz)
  (z8 (ZE PassesOwn.never rfl (z7X (zE (z6 zi (z6 zi (z6 zi z7))))) (zB (i:=3) z6d.nd rfl (Or.inl rfl))
   (zc (zD (zl z0l (zp S.draw hr1 rfl (z6 (pv 0) (z6 (pv 1) (z6 zg z7)))) zg (zn _))
    (zc (QA hu (pv 2) (pv 3) (zp S.const hr rfl (z6 (pv 0) (z6 (pv 1) z7))) rfl)) zu)))
  (zc (zm (pv 2)))),?_⟩
 try dsimp only [L2.cxOf,L2.Cx.nox]
 refine fun d hd=>⟨by show 3≤sizeLine;decide,fun tp htp=>?_⟩
 have s1:=zh hd (.dK [])
 have s2:=zh htp (.tup [.str "a",.str "b",.str "c"])
 have s12:=s1.trans s2
 have hd2:upd (upd H d (.dK [])) tp (.tup [.str "a",.str "b",.str "c"]) d=some (.dK []):=s2 _ _ zb
 have hp2:upd (upd H d (.dK [])) tp (.tup [.str "a",.str "b",.str "c"]) tp=some (.tup [.str "a",.str "b",.str "c"]):=zb
 have ndt:d≠t:=(ze hT hd).symm
 have ndp:d≠tp:=zC hd2 hp2 nofun
 generalize upd (upd H d (.dK [])) tp (.tup [.str "a",.str "b",.str "c"])=H0 at *
 refine ⟨tp,rfl,⟨_,SqT.of hp2⟩,z6E (K:=K) (a:=tp) (xs:=[.str "a",.str "b",.str "c"]) (GivW H a t d ns c tp)
  ⟨none,[],c,cells,rfl,hd2,⟨ke _,fun _ h=>by cases h⟩,hcl,s12 _ _ hT,by lia,fun b o e _=>s12 _ _ e,hp2⟩ (fun i σ H2 _ zz=>by obtain ⟨_,_,_,_,_,_,_,_,_,_,_,e⟩:=zz;exact SqT.of e) ?_ ?_⟩
 ·rintro i x σ H2 hi ⟨v,kvs,c2,cells2,rfl,e1,e2,e3,e4,e5,e6,e7⟩
  have hx:∃nm:Str,x=.str nm∧nm∈(["a","b","c"]:List Str):=by
   have:=kI hi
   simp only [kF,kq,or_false] at this
   rcases this with z | z | z
   all_goals exact ⟨_,z,by simp⟩
  obtain ⟨nm,rfl,hnm⟩:=hx
  have hi3:i < 3:=(kf.mp hi).1
  have hS2:Scr K H2 a (ns.map V.int):=hS.keep1 e6 hT
  refine ⟨_,rfl,_,rfl,a,t,ns,c2,cells2,3,rfl,hS2,hns,e3,e4,by lia,by decide,by decide,fun j cells3 H3 j0 j1 l3 t3 k3=>?_⟩
  have hd3:=k3 _ _ e1 ndt
  have hp3:=k3 _ _ e7 (zC e7 e4 nofun)
  have k03:qW H H3 t:=fun b o e hb=>k3 b o (e6 b o e hb) hb
  refine ⟨_,_,rfl,rfl,_,rfl,?_⟩
  refine ite2 (fun _=>?_) (fun _=>?_)
  ·have hS3:Scr K H3 a (ns.map V.int):=hS2.keep1 k3 e4
   refine ⟨_,rfl,_,rfl,a,t,ns,c2+1,cells3,rfl,hS3,hns,l3,t3,by lia,fun v4 cells4 H4 pv4 ov4 l4 t4 k4=>?_⟩
   have hd4:=k4 _ _ hd3 ndt
   have hp4:=k4 _ _ hp3 (zC hp3 t3 nofun)
   refine ⟨_,rfl,_,rfl,d,_,rfl,DPut.k (k:=Sum.inr nm) hd4 (JG (by have:=e2.len;lia)),?_⟩
   refine ⟨_,_,c2+1+1,cells4,rfl,zb,e2.put hnm ov4,l4,by rw [zf ndt.symm];exact t4,by lia,fun b o e hb=>?_,by rw [zf ndp.symm];exact hp4⟩
   have:b≠d:=ze e hd
   rw [zf this]
   exact k4 b o (k03 b o e hb) hb
  ·exact ⟨_,kvs,c2+1,cells3,rfl,hd3,⟨by have:=e2.len;lia,e2.all⟩,l3,t3,by lia,k03,hp3⟩
 ·rintro σ H2 ⟨v,kvs,c2,cells2,rfl,e1,e2,e3,e4,e5,e6,e7⟩
  exact ⟨_,rfl,q d kvs c2 cells2 H2 e1 e2 e3 e4 (by have:([.str "a",.str "b",.str "c"]:List V).length=3:=rfl;lia) e6⟩
def z2N (K:ky):Sp:=fun vs H Q _=>∃a d,vs=[.ref a]∧RdV K H (.ref a) d∧z49 d∧Q (.str d.shown) H
theorem z9b:zj ["_law_thing"] ["_law_thing"] (zd (top 125)):=fsM
structure z4a (K:ky) (H:Hp) (t:Addr) (e sd:List V) (n:Nat):Prop where
 here:∃ea tl,H t=some (.tup [.ref ea,.ref tl,.int (n:Nat)])∧SqT K H ea e∧H tl=some (.lst sd)
theorem z4a.same {H H':Hp} {t:Addr} {e sd:List V} {n:Nat} (h:z4a K H t e sd n) (s:Same H H'):z4a K H' t e sd n:=by
 obtain ⟨ea,tl,h1,h2,h3⟩:=h
 exact ⟨ea,tl,s _ _ h1,jd s h2,s _ _ h3⟩
theorem z5G {H:Hp} {t:Addr} {e sd:List V} {n:Nat} (h:z4a K H t e sd n) (he:e=onE∨z03 e) (hs:okVs sd) (hl:sd.length≤1000) (hn:n≤1000) {Q:VK} {E:XK} (q:Q (.str (resD e sd (n:Int)).shown) H):z2N K [.ref t] H Q E:=by
 obtain ⟨ea,tl,h1,h2,h3⟩:=h
 obtain ⟨b1,b2⟩:=z43 he
 have b3:∀x∈sd,Zx x:=fun x hx=>QG (hs x hx)
 have bn:Zx (.int (n:Int)):=QT (kh (by lia))
 refine ⟨t,resD e sd (n:Int),rfl,?_,z4g b1 b3 b2 hl bn,q⟩
 exact .tup (SqT.of h1) (.cons (.tup h2 (Qx (Za b1).1)) (.cons (.lst (SqL.of h3) (Qx (Za b3).1)) (.cons (.flat (x:=.int (n:Int)) rfl) .nil)))
end
set_option maxHeartbeats 4000000
section
theorem z9i:zj ["_law_thing"] ["_law_thing"] (zd (top 105)):=fsM
theorem z4Q (D:zo K mg "_law_whole" (top 105)) (G:Glo mg):FN P w K mg base 1 "_law_whole" ["_law_thing"] (sp1 jC):=by
 refine FN.o D z9i fun f cdv A outer s H vs Q E hr h=>?_
 obtain ⟨x,rfl,hx,q⟩:=h
 refine ⟨_,zc (zm (j7 (zy zM rfl G.isinstance zx (z6 (pv 0) (z6 (Z2 "int" rfl G.int z20) z7)))
  (jh (z0j (zy zM rfl G.isinstance zx (z6 (pv 0) (z6 (Z2 "bool" rfl G.bool jk) z7))))))),?_⟩
 try dsimp only [L2.cxOf,L2.Cx.nox]
 obtain ⟨t1,ty1,k1⟩:=z1R (K:=K) (H:=H) hx
 obtain ⟨t2,ty2,k2⟩:=jB (K:=K) (H:=H) hx
 refine ⟨_,rfl,_,"int",t1,_,rfl,ty1,k1,_,rfl,?_⟩
 cases hx with
 | non=>exact q
 | bl b=>exact ⟨_,rfl,_,"bool",t2,_,rfl,ty2,k2,_,rfl,q⟩
 | int i=>exact ⟨_,rfl,_,"bool",t2,_,rfl,ty2,k2,_,rfl,q⟩
 | str s _=>exact q
noncomputable def QN:V→Bool
 | .non=>false
 | .bl b=>b
 | .int i=> !decide (V.int i=V.int 0)
 | _=>true
def z10:Sp:=fun vs H Q _=>∃x,vs=[x]∧Scal x∧Q (.bl (QN x)) H
theorem z9e:zj ["_law_value_here"] ["_law_value_here"] (zd (top 118)):=fsM
theorem z51 (D:zo K mg "_law_true" (top 118)) (FW:FN P w K mg base 1 "_law_whole" ["_law_thing"] (sp1 jC)):FN P w K mg base 2 "_law_true" ["_law_value_here"] z10:=by
 refine FN.o D z9e fun f cdv A outer s H vs Q E hr h=>?_
 obtain ⟨x,rfl,hx,q⟩:=h
 refine ⟨_,zc (zm (z0j (z4s (qv QE (pv 0) qc (zn _)) (z4s (qv z84 (pv 0) JC (zn _))
  (jh (j7 (zp FW hr rfl (z6 (pv 0) z7)) (jh (qv zT (pv 0) zg (zn _))))))))),?_⟩
 try dsimp only [L2.cxOf,L2.Cx.nox]
 cases hx with
 | non=>exact ⟨_,rfl,rfl,true,rfl,iteT ⟨true,rfl,q⟩⟩
 | bl b=>
  refine ⟨_,rfl,rfl,false,rfl,iteF ⟨_,rfl,false,rfl,?_⟩⟩
  cases b with
  | false=>exact ⟨true,rfl,iteT ⟨true,rfl,q⟩⟩
  | true=>exact ⟨false,rfl,iteF ⟨_,rfl,_,rfl,.bl true,false,rfl,iteF ⟨false,rfl,q⟩⟩⟩
 | int i=>
  refine ⟨_,rfl,rfl,false,rfl,iteF ⟨_,rfl,false,rfl,false,rfl,iteF ⟨_,rfl,_,rfl,.int i,true,rfl,iteT ⟨_,rfl,rfl,_,rfl,q⟩⟩⟩⟩
 | str z hz=>
  refine ⟨_,rfl,rfl,false,rfl,iteF ⟨_,rfl,false,rfl,false,rfl,iteF ⟨_,rfl,_,rfl,.str z hz,false,rfl,iteF ⟨false,rfl,q⟩⟩⟩⟩
end
noncomputable def tagV (r1 r2:V):List V:=match r1 with
 | .non=>[.str "value",r2]
 | k=>[.str "kind",k]
theorem z7f (i:Int):big (-i)=big i:=by
 unfold big
 rw [Int.natAbs_neg]
theorem Qf {i j:Int} (h:big i=false) (hp:0 < j):big (i.fdiv j)=false:=by
 have h1:¬1000000000000000000 < i.natAbs:=of_decide_eq_false h
 refine kh fun z=>h1 (kN z ?_)
 have e:=Int.mul_fdiv_add_fmod i j
 have m1:=Int.fmod_nonneg_of_pos i hp
 have m2:=Int.fmod_lt_of_pos i hp
 generalize i.fdiv j=q at *
 generalize i.fmod j=m at *
 by_cases hq:q.natAbs≤i.natAbs
 ·exact hq
 ·exfalso
  rcases Int.lt_or_le q 0 with q0 | q0
  ·have:(j - 1) * (q+1)≤0:=Int.mul_nonpos_of_nonneg_of_nonpos (by lia) (by lia)
   have e3:(j - 1) * (q+1)=j * q+j - q - 1:=by rw [Int.sub_mul,Int.mul_add,Int.mul_one,Int.one_mul];lia
   lia
  ·have:0≤(j - 1) * q:=Int.mul_nonneg (by lia) q0
   have e3:(j - 1) * q=j * q - q:=by rw [Int.sub_mul,Int.one_mul]
   lia
theorem z5n {i j:Int} (h:big i=false) (hj:j≠0):big (i.fdiv j)=false:=by
 rcases Int.lt_or_gt_of_ne hj with hn | hp
 ·rw [←Int.neg_fdiv_neg]
  exact Qf (by rw [z7f];exact h) (by lia)
 ·exact Qf h hp
theorem z5m {i j:Int} (h:big j=false) (hj:j≠0):big (i.fmod j)=false:=by
 have h1:¬1000000000000000000 < j.natAbs:=of_decide_eq_false h
 refine kh fun z=>h1 (kN z ?_)
 rcases Int.lt_or_gt_of_ne hj with hn | hp
 ·have e:(-i).fmod (-j)= -(i.fmod j):=Int.neg_fmod_neg ..
  have m1:=Int.fmod_nonneg_of_pos (-i) (b:= -j) (by lia)
  have m2:=Int.fmod_lt_of_pos (-i) (b:= -j) (by lia)
  lia
 ·have m1:=Int.fmod_nonneg_of_pos i hp
  have m2:=Int.fmod_lt_of_pos i hp
  lia
theorem z8f {k:Int}:decide ((if k < 0 then -k else k)≤(10 ^ (18:Int).toNat:Int))= !big k:=by
 have e:(10 ^ (18:Int).toNat:Int)=1000000000000000000:=by decide
 rw [e]
 unfold big
 by_cases h:k < 0
 ·rw [kC h]
  by_cases z:1000000000000000000 < k.natAbs
  ·rw [ki z,kh (by lia)];rfl
  ·rw [kh z,ki (by lia)];rfl
 ·rw [kz h]
  by_cases z:1000000000000000000 < k.natAbs
  ·rw [ki z,kh (by lia)];rfl
  ·rw [kh z,ki (by lia)];rfl
noncomputable def z0U (k:Nat):Stmt:=(zN (top 119)).getD k (.Pass ⟨0,0,0,0⟩)
noncomputable abbrev N119:List Str:=["_law_op","_law_one","_law_other","_law_found"]
theorem z7J:zj N119 ["_law_op","_law_one","_law_other"] (zd (top 119)):=fsM
noncomputable def z2X:List Str:=["add","sub","mul","div","rest","less"]
theorem z3n {op:Str} {i j:Int} (h0:op≠"same") (hs:Sm i j):jm op (.int i) (.int j)=if (op="div"∨op="rest")∧j=0 then some (.str "Zero",.non) else z1O op i j:=by
 unfold jm z1O
 rw [kz h0]
 dsimp only
 rw [hs.1,hs.2,kz ka,kz ka]
noncomputable def bigR (k:Int):V × V:=if big k=true then (.str "Big",.non) else (.non,.int k)
def z9W:TS:=fun D σ H=>∃(x0 x1 x2:Option V) (k:Int),σ=[x0,x1,x2,some (.int k)]∧∀t H',Same H H'→H' t=some (.tup (tagV (bigR k).1 (bigR k).2))→D.rt (.ref t) H'
def T119:TS:=fun D σ H=>∃(op:Str) (i j:Int) (r1 r2:V),σ=[some (.str op),some (.int i),some (.int j),none]∧Sm i j∧op∈z2X∧jm op (.int i) (.int j)=some (r1,r2)∧∀t H',Same H H'→H' t=some (.tup (tagV r1 r2))→D.rt (.ref t) H'
section
section
variable {f:Addr} {cdv:Value} {A:Around} {outer:List Env} {s:Shared} {H0:Hp} {E:XK}
theorem z9s (G:Glo mg):PSs (cxOf CX0 P w K mg base N119 "_law_pair" (zd (top 119)) f cdv A outer s H0 E).nox [z0U 7] z9W:=by
 refine PSs.imp (zc (zm (qG (zl z1b (zy z1Z rfl G.abs z21 (z6 (pv 3) z7)) (zJ z1J zg zg) (zn _)) (zE (z6 zi (z6 (pv 3) z7))) (zE (z6 zi (z6 zi z7)))))) ?_
 rintro D σ H ⟨x0,x1,x2,k,rfl,q⟩
 refine ⟨_,rfl,k,rfl,_,_,rfl,rfl,⟨by decide,by decide,by decide⟩,_,_,rfl,rfl,!big k,congrArg V.bl z8f,?_⟩
 unfold bigR at q
 cases b:big k with
 | true=>
  rw [b,kC rfl] at q
  exact iteF ⟨by show 2≤sizeLine;decide,fun t ht=>q t _ (zh ht _) zb⟩
 | false=>
  rw [b,kz ka] at q
  exact iteT ⟨_,rfl,by show 2≤sizeLine;decide,fun t ht=>q t _ (zh ht _) zb⟩
theorem z9t (G:Glo mg):PSs (cxOf CX0 P w K mg base N119 "_law_pair" (zd (top 119)) f cdv A outer s H0 E).nox [z0U 2,z0U 3,z0U 4,z0U 5,z0U 6,z0U 7] T119:=by
 refine PSs.imp (z8 (zD (zl zT (pv 0) zi (zn _)) (zc (zm (zE (z6 zi (z6 (qv Qj (pv 1) (pv 2) (zn _)) z7))))) zu)
  (z8 (zD (PW.pt (J8 (zl qx (pv 0) (zE (z6 zi (z6 zi z7))) rfl) (Q3 (zl zT (pv 2) zg (zn _))))) (zc (zm (zE (z6 zi (z6 zi z7))))) zu)
  (z8 (zD (zl zT (pv 0) zi (zn _)) (zc (zm (zE (z6 zi (z6 (zJ z1L (pv 1) (pv 2)) z7))))) zu)
  (z8 (zD (zl zT (pv 0) zi (zn _)) (zc (zm (zE (z6 zi (z6 (zJ z3c (pv 1) (pv 2)) z7))))) zu)
  (z8 (zA (i:=3) z7J.nd rfl (Or.inl rfl) (qG (zl zT (pv 0) zi (zn _)) (zJ qV (pv 1) (pv 2)) (qG (zl zT (pv 0) zi (zn _)) (zJ qU (pv 1) (pv 2)) (zJ J9 (pv 1) (pv 2)))))
  (z9s G)))))) ?_
 rintro D σ H ⟨op,i,j,r1,r2,rfl,hs,hop,hm,q⟩
 have h0:op≠"same":=fun z=>by rw [z] at hop;revert hop;decide+kernel
 rw [z3n h0 hs] at hm
 unfold z2X at hop
 simp only [kF,kq,or_false] at hop
 have big2:∀{k:Int},(if big k=true then some ((V.str "Big",V.non):V × V) else some (.non,.int k))=some (r1,r2)→(bigR k).1=r1∧(bigR k).2=r2:=fun {k} h=>by
  unfold bigR
  cases b:big k with
  | true=>rw [b,kC rfl] at h;cases h;exact ⟨rfl,rfl⟩
  | false=>rw [b,kz ka] at h;cases h;exact ⟨rfl,rfl⟩
 have nodiv:¬(op="div"∨op="rest")→¬((op="div"∨op="rest")∧j=0):=fun z y=>z y.1
 rcases hop with h | h | h | h | h | h
 all_goals subst h
 ·rw [kz (nodiv (by trivial))] at hm
  obtain ⟨e1,e2⟩:=big2 (k:=i+j) hm
  refine ⟨_,rfl,rfl,false,rfl,iteF ⟨_,rfl,by show 2≤sizeLine;decide,fun p hp=>⟨p,_,rfl,.inr (SqT.of zb),rfl,rfl,false,rfl,iteF (iteF ?_)⟩⟩⟩
  have s1:=zh hp (.tup [.str "div",.str "rest"])
  refine ⟨_,rfl,rfl,false,rfl,iteF ⟨_,rfl,rfl,false,rfl,iteF ⟨_,rfl,rfl,true,rfl,iteT ⟨_,rfl,_,rfl,_,_,rfl,rfl,?_⟩⟩⟩⟩
  exact ⟨_,_,_,i+j,rfl,fun t H' s' ht=>q t H' (s1.trans s') (by rw [←e1,←e2];exact ht)⟩
 ·rw [kz (nodiv (by trivial))] at hm
  obtain ⟨e1,e2⟩:=big2 (k:=i - j) hm
  refine ⟨_,rfl,rfl,false,rfl,iteF ⟨_,rfl,by show 2≤sizeLine;decide,fun p hp=>⟨p,_,rfl,.inr (SqT.of zb),rfl,rfl,false,rfl,iteF (iteF ?_)⟩⟩⟩
  have s1:=zh hp (.tup [.str "div",.str "rest"])
  refine ⟨_,rfl,rfl,false,rfl,iteF ⟨_,rfl,rfl,false,rfl,iteF ⟨_,rfl,rfl,false,rfl,iteF ⟨_,rfl,rfl,true,rfl,iteT ⟨_,rfl,_,rfl,_,_,rfl,rfl,?_⟩⟩⟩⟩⟩
  exact ⟨_,_,_,i - j,rfl,fun t H' s' ht=>q t H' (s1.trans s') (by rw [←e1,←e2];exact ht)⟩
 ·rw [kz (nodiv (by trivial))] at hm
  obtain ⟨e1,e2⟩:=big2 (k:=i * j) hm
  refine ⟨_,rfl,rfl,false,rfl,iteF ⟨_,rfl,by show 2≤sizeLine;decide,fun p hp=>⟨p,_,rfl,.inr (SqT.of zb),rfl,rfl,false,rfl,iteF (iteF ?_)⟩⟩⟩
  have s1:=zh hp (.tup [.str "div",.str "rest"])
  refine ⟨_,rfl,rfl,false,rfl,iteF ⟨_,rfl,rfl,false,rfl,iteF ⟨_,rfl,rfl,false,rfl,iteF ⟨_,rfl,rfl,false,rfl,iteF ⟨_,rfl,_,rfl,_,_,rfl,rfl,z0f hs.1,?_⟩⟩⟩⟩⟩
  exact ⟨_,_,_,i * j,rfl,fun t H' s' ht=>q t H' (s1.trans s') (by rw [←e1,←e2];exact ht)⟩
 ·refine ⟨_,rfl,rfl,false,rfl,iteF ⟨_,rfl,by show 2≤sizeLine;decide,fun p hp=>⟨p,_,rfl,.inr (SqT.of zb),rfl,rfl,true,rfl,iteT ?_⟩⟩⟩
  have s1:=zh hp (.tup [.str "div",.str "rest"])
  obtain ⟨z,hz⟩:∃z,decide (V.int j=V.int 0)=z:=⟨_,rfl⟩
  refine ⟨_,rfl,rfl,z,congrArg V.bl hz,?_⟩
  cases z with
  | true=>
   have hj:j=0:=by have:=kE hz;injection this
   rw [kC ⟨.inl rfl,hj⟩] at hm
   cases hm
   exact iteT ⟨by show 2≤sizeLine;decide,fun t ht=>q t _ (s1.trans (zh ht _)) zb⟩
  | false=>
   have hj:¬j=0:=fun z=>by rw [z] at hz;cases hz
   rw [kz (fun z=>hj z.2)] at hm
   have hm:(match (if j=0 then none else some (i.fdiv j)) with | some k=>if big k=true then some ((V.str "Big",V.non):V × V) else some (.non,.int k) | none=>none)=some (r1,r2):=hm
   rw [kz hj] at hm
   dsimp only at hm
   rw [z5n hs.1 hj,kz ka] at hm
   cases hm
   exact iteF ⟨_,rfl,rfl,true,rfl,iteT ⟨_,rfl,_,rfl,_,_,rfl,rfl,⟨hj,z0q hs.2⟩,by show 2≤sizeLine;decide,fun t ht=>q t _ (s1.trans (zh ht _)) zb⟩⟩
 ·refine ⟨_,rfl,rfl,false,rfl,iteF ⟨_,rfl,by show 2≤sizeLine;decide,fun p hp=>⟨p,_,rfl,.inr (SqT.of zb),rfl,rfl,true,rfl,iteT ?_⟩⟩⟩
  have s1:=zh hp (.tup [.str "div",.str "rest"])
  obtain ⟨z,hz⟩:∃z,decide (V.int j=V.int 0)=z:=⟨_,rfl⟩
  refine ⟨_,rfl,rfl,z,congrArg V.bl hz,?_⟩
  cases z with
  | true=>
   have hj:j=0:=by have:=kE hz;injection this
   rw [kC ⟨.inr rfl,hj⟩] at hm
   cases hm
   exact iteT ⟨by show 2≤sizeLine;decide,fun t ht=>q t _ (s1.trans (zh ht _)) zb⟩
  | false=>
   have hj:¬j=0:=fun z=>by rw [z] at hz;cases hz
   rw [kz (fun z=>hj z.2)] at hm
   have hm:(match (if j=0 then none else some (i.fmod j)) with | some k=>if big k=true then some ((V.str "Big",V.non):V × V) else some (.non,.int k) | none=>none)=some (r1,r2):=hm
   rw [kz hj] at hm
   dsimp only at hm
   rw [z5m hs.2 hj,kz ka] at hm
   cases hm
   exact iteF ⟨_,rfl,rfl,false,rfl,iteF ⟨_,rfl,rfl,true,rfl,iteT ⟨_,rfl,_,rfl,_,_,rfl,rfl,hj,by show 2≤sizeLine;decide,fun t ht=>q t _ (s1.trans (zh ht _)) zb⟩⟩⟩
 ·rw [kz (nodiv (by trivial))] at hm
  cases hm
  exact ⟨_,rfl,rfl,true,rfl,iteT ⟨_,rfl,_,rfl,_,_,rfl,rfl,by show 2≤sizeLine;decide,fun t ht=>q t _ (zh ht _) zb⟩⟩
end
end
section
def z5w:Sp:=fun vs H Q _=>∃op x y r1 r2,vs=[.str op,x,y]∧Scal x∧Scal y∧op∈jo∧jm op x y=some (r1,r2)∧∀t H',Same H H'→H' t=some (.tup (tagV r1 r2))→Q (.ref t) H'
theorem z6Q (D:zo K mg "_law_pair" (top 119)) (G:Glo mg) (FW:FN P w K mg base 1 "_law_whole" ["_law_thing"] (sp1 jC)):FN P w K mg base 2 "_law_pair" ["_law_op","_law_one","_law_other"] z5w:=by
 refine FN.o D z7J fun f cdv A outer s H vs Q E hr h=>?_
 obtain ⟨op,x,y,r1,r2,rfl,hx,hy,hop,hm,q⟩:=h
 refine ⟨_,z8 (zD (zl zT (pv 0) zi (zn _)) (zc (zm (zE (z6 zi (z6 (j7 (qv zT (zy zM rfl G.isinstance zx (z6 (pv 1) (z6 (Z2 "bool" rfl G.bool jk) z7))) (zy zM rfl G.isinstance zx (z6 (pv 2) (z6 (Z2 "bool" rfl G.bool jk) z7))) (zn _))
   (jh (qv zT (pv 1) (pv 2) (zn _)))) z7))))) zu)
  (z8 (zD (PW.pt (Qz (jy (qK (zp FW hr rfl (z6 (pv 1) z7)))) (Zj (jy (qK (zp FW hr rfl (z6 (pv 2) z7))))))) (zc (zm (zE (z6 zi (z6 zi z7))))) zu)
  (z9t G)),?_⟩
 try dsimp only [L2.cxOf,L2.Cx.nox]
 refine ⟨_,rfl,rfl,decide (op="same"),congrArg V.bl j9,?_⟩
 by_cases h0:op="same"
 ·unfold jm at hm
  rw [kC h0] at hm
  cases hm
  rw [ki h0]
  obtain ⟨t1,ty1,k1⟩:=jB (K:=K) (H:=H) hx
  obtain ⟨t2,ty2,k2⟩:=jB (K:=K) (H:=H) hy
  refine iteT ⟨_,rfl,_,"bool",t1,_,rfl,ty1,k1,_,rfl,_,"bool",t2,_,rfl,ty2,k2,rfl,isB x == isB y,congrArg V.bl Jg,?_⟩
  have q':∀t H',Same H H'→H' t=some (.tup [.str "value",.bl (z29 x y)])→Q (.ref t) H':=q
  unfold z29 at q'
  cases e:isB x == isB y with
  | true=>
   rw [e,Bool.true_and] at q'
   exact iteT ⟨_,rfl,_,rfl,z0h hx hy (eq_of_beq e),by show 2≤sizeLine;decide,fun t ht=>q' t _ (zh ht _) zb⟩
  | false=>
   rw [e,Bool.false_and] at q'
   exact iteF ⟨by show 2≤sizeLine;decide,fun t ht=>q' t _ (zh ht _) zb⟩
 rw [kh h0]
 refine iteF ⟨_,rfl,x,rfl,hx,jC x,rfl,?_⟩
 have typ:jm op x y=some (.str "Type",.non)→∀σ,tTup (jr (tC (.str "kind")) (jr (tC (.str "Type")) tNil)) σ H Q:=fun e σ=>by
  rw [hm] at e
  cases e
  exact ⟨by show 2≤sizeLine;decide,fun t ht=>q t _ (zh ht _) zb⟩
 cases hnx:jC x with
 | false=>exact iteT (iteT (typ (Zf h0 (.inl hnx)) _))
 | true=>
  refine iteF ⟨_,rfl,y,rfl,hy,jC y,rfl,?_⟩
  cases hny:jC y with
  | false=>exact iteT (typ (Zf h0 (.inr hny)) _)
  | true=>
   refine iteF ?_
   clear typ
   cases hx with
   | int i=>
    cases hy with
    | int j=>
     have hs:Sm i j:=by
      unfold jm at hm
      rw [kz h0] at hm
      dsimp only at hm
      cases b1:big i with
      | true=>rw [b1,kC rfl] at hm;cases hm
      | false=>
       rw [b1,kz ka] at hm
       cases b2:big j with
       | true=>rw [b2,kC rfl] at hm;cases hm
       | false=>exact ⟨b1,b2⟩
     have h6:op∈z2X:=by
      unfold jo at hop
      simp only [kF,kq,or_false] at hop
      rcases hop with h | h | h | h | h | h | h
      ·rw [h];decide+kernel
      ·rw [h];decide+kernel
      ·rw [h];decide+kernel
      ·rw [h];decide+kernel
      ·rw [h];decide+kernel
      ·rw [h];decide+kernel
      ·exact absurd h h0
     exact ⟨op,i,j,r1,r2,rfl,hs,h6,hm,q⟩
    | _=>cases hny
   | _=>cases hnx
end
end My
local macro_rules | `(tactic| trivial)=>`(tactic| (dsimp only;decide+kernel))
local macro_rules | `(tactic| trivial)=>`(tactic| decide+kernel)
namespace My
open PySem PySem.Spec PyProof.Rows L2
variable {P:Program} {w:World} {K:ky} {mg:Str→Option Value} {base:Heap}
noncomputable def kv:Res→V
 | .fault k=>.str k
 | _=>.non
structure MA (H:Hp) (sa nd oa:Addr) (m:Mst):Prop where
 st:H sa=some (.lst m.st)
 kn:H nd=some (.dK m.kn)
 sd:H oa=some (.lst m.sd)
 ne:sa≠oa
section
variable {H H':Hp} {sa nd oa:Addr} {m:Mst}
theorem MA.same (h:MA H sa nd oa m) (s:Same H H'):MA H' sa nd oa m:=⟨s _ _ h.st,s _ _ h.kn,s _ _ h.sd,h.ne⟩
theorem MA.setSt (h:MA H sa nd oa m) (xs:List V):MA (upd H sa (.lst xs)) sa nd oa { m with st:=xs }:=⟨zb,by rw [zf (zC h.kn h.st nofun)];exact h.kn,by rw [zf h.ne.symm];exact h.sd,h.ne⟩
theorem MA.setKn (h:MA H sa nd oa m) (kn:List (Key × V)):MA (upd H nd (.dK kn)) sa nd oa { m with kn:=kn }:=⟨by rw [zf (zC h.st h.kn nofun)];exact h.st,zb,by rw [zf (zC h.sd h.kn nofun)];exact h.sd,h.ne⟩
theorem MA.setSd (h:MA H sa nd oa m) (xs:List V):MA (upd H oa (.lst xs)) sa nd oa { m with sd:=xs }:=⟨by rw [zf h.ne];exact h.st,by rw [zf (zC h.kn h.sd nofun)];exact h.kn,zb,h.ne⟩
end
theorem eqS (a b:Str):decide (V.str a=V.str b)=decide (a=b):=by rw [Bool.eq_iff_iff];simp
section
def spNm:Sp:=fun vs H Q _=>∃(op nm:Str) (sa nd oa:Addr) (m:Mst) (res:Res) (m':Mst),vs=[.str op,.str nm,.ref sa,.ref nd]∧op∈(["load","quick","store","clear"]:List Str)∧MA H sa nd oa m∧rowM op (.str nm) m=some (res,m')∧∀H',MA H' sa nd oa m'→zF H H' sa nd oa→Q (kv res) H'
theorem z9d:zj ["_law_op","_law_arg","_law_stack","_law_names"] ["_law_op","_law_arg","_law_stack","_law_names"] (zd (top 120)):=fsM
theorem z9L (D:zo K mg "_law_named" (top 120)):FN P w K mg base 1 "_law_named" ["_law_op","_law_arg","_law_stack","_law_names"] spNm:=by
 refine FN.o D z9d fun f cdv A outer s H vs Q E hr h=>?_
 obtain ⟨op,nm,sa,nd,oa,m,res,m',rfl,hop,hA,hg,q⟩:=h
 have hu:=Zq hr
 refine ⟨_,z8 (zD (zl zT (pv 0) zi (zn _)) (zc (QA hu (pv 3) (pv 1) (qF (pv 2)) rfl))
  (zc (zD (zl zT (pv 0) zi (zn _)) (zc (zk (qO (pv 2) (z6 (qG (z1B (z5K hu (pv 1) (pv 3))) (jz hu (pv 3) (pv 1) (fun _ _=>rfl)) qc) z7))))
  (zc (zD (z1B (QC hu (pv 1) (pv 3))) (zc (zm zi))
  (zc (zD (zl zT (pv 0) zi (zn _)) (zc (zk (qO (pv 2) (z6 (jz hu (pv 3) (pv 1) (fun _ _=>rfl)) z7))))
   (zc (zk (z1E (pv 3) (pv 1) ⟨rfl,rfl,rfl,rfl⟩))))))))))
  (zc (zm qc)),?_⟩
 try dsimp only [L2.cxOf,L2.Cx.nox]
 have hgt:DGet H nd (.str nm) (valV m.kn (Sum.inr nm:Key)):=DGet.k (k:=Sum.inr nm) hA.kn
 simp only [kF,kq,or_false] at hop
 rcases hop with rfl | rfl | rfl | rfl
 ·-- load
  have e0:rowM "load" (.str nm) m=J1 "load" (.str nm) m:=by (unfold rowM;repeat (first | rw [kC (by trivial)] | rw [kz (by trivial)]))
  rw [e0] at hg
  unfold J1 at hg
  dsimp only at hg
  refine ⟨_,rfl,rfl,_,rfl,?_⟩
  rw [eqS,show decide (("load":Str)="store")=false by trivial]
  refine iteF ⟨_,rfl,rfl,_,rfl,?_⟩
  rw [eqS,show decide (("load":Str)="quick")=false by trivial]
  refine iteF ⟨_,rfl,_,rfl,nd,_,rfl,hgt,_,rfl,?_⟩
  cases hv:valV m.kn (Sum.inr nm:Key) with
  | none=>
   rw [hv] at hg
   cases hg
   exact iteT (q H hA zF.refl)
  | some v=>
   rw [hv] at hg hgt
   dsimp only at hg
   by_cases hz:qC m.st.length=true
   case neg=>rw [kz hz] at hg;cases hg
   rw [kC hz] at hg
   cases hg
   refine iteF ⟨_,rfl,rfl,_,rfl,?_⟩
   rw [eqS,show decide (("load":Str)="load")=true by trivial]
   refine iteT ⟨_,rfl,.inl ⟨rfl,_,SqL.of hA.st⟩,_,rfl,_,rfl,nd,v,rfl,hgt,sa,_,_,rfl,rfl,hA.st,qj hz,?_⟩
   exact q _ (hA.setSt _) zF.a
 ·-- quick
  have e0:rowM "quick" (.str nm) m=ZQ "quick" (.str nm) m:=by (unfold rowM;repeat (first | rw [kC (by trivial)] | rw [kz (by trivial)]))
  rw [e0] at hg
  unfold ZQ at hg
  dsimp only at hg
  by_cases hz:qC m.st.length=true
  case neg=>rw [kz hz] at hg;cases hg
  rw [kC hz] at hg
  cases hg
  refine ⟨_,rfl,rfl,_,rfl,?_⟩
  rw [eqS,show decide (("quick":Str)="store")=false by trivial]
  refine iteF ⟨_,rfl,rfl,_,rfl,?_⟩
  rw [eqS,show decide (("quick":Str)="quick")=true by trivial]
  refine iteT ⟨_,rfl,.inl ⟨rfl,_,SqL.of hA.st⟩,_,rfl,_,rfl,nd,_,rfl,hgt,_,rfl,?_⟩
  cases hv:valV m.kn (Sum.inr nm:Key) with
  | none=>
   rw [hv] at q
   exact iteF ⟨sa,_,_,rfl,rfl,hA.st,qj hz,q _ (hA.setSt _) zF.a⟩
  | some v=>
   rw [hv] at q hgt
   exact iteT ⟨_,rfl,_,rfl,nd,v,rfl,hgt,sa,_,_,rfl,rfl,hA.st,qj hz,q _ (hA.setSt _) zF.a⟩
 ·-- store
  have e0:rowM "store" (.str nm) m=ZO "store" (.str nm) m:=by (unfold rowM;repeat (first | rw [kC (by trivial)] | rw [kz (by trivial)]))
  rw [e0] at hg
  unfold ZO at hg
  dsimp only at hg
  cases hv:m.st.getLast? with
  | none=>rw [hv] at hg;cases hg
  | some v=>
   rw [hv] at hg
   dsimp only at hg
   by_cases hz:qC m.kn.length=true
   case neg=>rw [kz hz] at hg;cases hg
   rw [kC hz] at hg
   cases hg
   have h1:=hA.setSt m.st.dropLast
   refine ⟨_,rfl,rfl,_,rfl,?_⟩
   rw [eqS,show decide (("store":Str)="store")=true by trivial]
   refine iteT ⟨_,rfl,.inl ⟨rfl,_,SqL.of hA.st⟩,sa,_,_,rfl,rfl,hA.st,zX hv,?_⟩
   refine ⟨_,rfl,_,rfl,nd,_,rfl,DPut.k (k:=Sum.inr nm) h1.kn (qj hz),?_⟩
   exact q _ (h1.setKn _) (zF.a.trans zF.b)
 ·-- clear
  have e0:rowM "clear" (.str nm) m=Zl "clear" (.str nm) m:=by (unfold rowM;repeat (first | rw [kC (by trivial)] | rw [kz (by trivial)]))
  rw [e0] at hg
  unfold Zl at hg
  dsimp only at hg
  refine ⟨_,rfl,rfl,_,rfl,?_⟩
  rw [eqS,show decide (("clear":Str)="store")=false by trivial]
  refine iteF ⟨_,rfl,rfl,_,rfl,?_⟩
  rw [eqS,show decide (("clear":Str)="quick")=false by trivial]
  refine iteF ⟨_,rfl,_,rfl,nd,_,rfl,hgt,_,rfl,?_⟩
  cases hv:valV m.kn (Sum.inr nm:Key) with
  | none=>
   rw [hv] at hg
   cases hg
   exact iteT (q H hA zF.refl)
  | some v=>
   rw [hv] at hg
   cases hg
   refine iteF ⟨_,rfl,rfl,_,rfl,?_⟩
   rw [eqS,show decide (("clear":Str)="load")=false by trivial]
   refine iteF ⟨_,rfl,nd,rfl,.inl ⟨_,.inl hA.kn⟩,_,rfl,_,Sum.inr nm,v,hA.kn,rfl,hv,?_⟩
   exact q _ (hA.setKn _) zF.b
end
end My
local macro_rules | `(tactic| trivial)=>`(tactic| (dsimp only;decide+kernel))
local macro_rules | `(tactic| trivial)=>`(tactic| decide+kernel)
namespace My
open PySem PySem.Spec PyProof.Rows L2
variable {P:Program} {w:World} {K:ky} {mg:Str→Option Value} {base:Heap}
theorem z1M {v:V} (h:okV v=true):QN v=jc v:=by
 cases v with
 | non=>rfl
 | bl b=>rfl
 | int i=>
  show (!decide (V.int i=V.int 0))=(i != 0)
  by_cases z:i=0
  ·subst z;rfl
  ·rw [kh (fun y=>z (by injection y))]
   simp [z]
 | str z=>
  have all:∀z∈j3,QN (.str z)=jc (.str z):=by trivial
  exact all z (kE h)
 | _=>cases h
def KOr (r1:V):Prop:=r1=.non∨∃k,r1=.str k
theorem z3m {op:Str} {x y r1 r2:V} (h:jm op x y=some (r1,r2)):KOr r1:=by
 unfold jm at h
 repeat' split at h
 all_goals first
  | (cases h;exact .inl rfl)
  | (cases h;exact .inr ⟨_,rfl⟩)
  | (cases h)
theorem z3o {op:Str} {x r1 r2:V} (h:QJ op x=some (r1,r2)):KOr r1:=by
 unfold QJ at h
 repeat' split at h
 all_goals first
  | (cases h;exact .inl rfl)
  | (cases h;exact .inr ⟨_,rfl⟩)
section
noncomputable def z63 (k:Nat):Stmt:=(zN (top 121)).getD k (.Pass ⟨0,0,0,0⟩)
noncomputable abbrev N121:List Str:=["_law_op","_law_stack","_law_other","_law_told"]
theorem z4j:zj N121 ["_law_op","_law_stack"] (zd (top 121)):=fsM
def T121:TS:=fun D σ H=>∃(x0 x2:Option V) (sa nd oa tt:Addr) (m:Mst) (r1 r2:V) (res:Res) (m':Mst),σ=[x0,some (.ref sa),x2,some (.ref tt)]∧H tt=some (.tup (tagV r1 r2))∧MA H sa nd oa m∧KOr r1∧pofM r1 r2 m=some (res,m')∧∀H',MA H' sa nd oa m'→zF H H' sa nd oa→D.rt (kv res) H'
theorem z8e {f:Addr} {cdv:Value} {A:Around} {outer:List Env} {s:Shared} {H0:Hp} {E:XK}:PSs (cxOf CX0 P w K mg base N121 "_law_made" (zd (top 121)) f cdv A outer s H0 E).nox [z63 3,z63 4,z63 5] T121:=by
 refine PSs.imp (z8 (zD (zl zT (zP qo (pv 3) zg (fun _ _=>rfl)) zi (zn _)) (zc (zm (zP qo (pv 3) zg (fun _ _=>rfl)))) zu)
  (z8 (zk (qO (pv 1) (z6 (zP qo (pv 3) zg (fun _ _=>rfl)) z7)))
  (zc (zm qc)))) ?_
 rintro D σ H ⟨x0,x2,sa,nd,oa,tt,m,r1,r2,res,m',rfl,htt,hA,hk,hp,q⟩
 rcases hk with rfl | ⟨k,rfl⟩
 ·unfold pofM at hp
  dsimp only at hp
  by_cases hz:qC m.st.length=true
  case neg=>rw [kz hz] at hp;cases hp
  rw [kC hz] at hp
  cases hp
  refine ⟨_,rfl,tt,_,_,_,rfl,rfl,SqT.of htt,zq (j:=0) rfl,rfl,false,rfl,iteF ?_⟩
  refine ⟨_,rfl,.inl ⟨rfl,_,SqL.of hA.st⟩,_,rfl,tt,_,_,_,rfl,rfl,SqT.of htt,zq (j:=1) rfl,sa,_,_,rfl,rfl,hA.st,qj hz,?_⟩
  exact q _ (hA.setSt _) zF.a
 ·cases hp
  refine ⟨_,rfl,tt,_,_,_,rfl,rfl,SqT.of htt,zq (j:=0) rfl,rfl,true,rfl,iteT ?_⟩
  exact ⟨_,rfl,tt,_,_,_,rfl,rfl,SqT.of htt,zq (j:=1) rfl,q _ hA zF.refl⟩
def spMd:Sp:=fun vs H Q _=>∃(op:Str) (arg:V) (sa nd oa:Addr) (m:Mst) (res:Res) (m':Mst),vs=[.str op,.ref sa]∧(op∈jo∨op∈jK)∧MA H sa nd oa m∧okVs m.st∧rowM op arg m=some (res,m')∧∀H',MA H' sa nd oa m'→zF H H' sa nd oa→Q (kv res) H'
theorem z9O (D:zo K mg "_law_made" (top 121)) (FW:FN P w K mg base 1 "_law_whole" ["_law_thing"] (sp1 jC)) (FT:FN P w K mg base 2 "_law_true" ["_law_value_here"] z10) (FP:FN P w K mg base 2 "_law_pair" ["_law_op","_law_one","_law_other"] z5w):FN P w K mg base 3 "_law_made" ["_law_op","_law_stack"] spMd:=by
 refine FN.o D z4j fun f cdv A outer s H vs Q E hr h=>?_
 obtain ⟨op,arg,sa,nd,oa,m,res,m',rfl,hop,hA,hok,hg,q⟩:=h
 have hr1:=hr.mono (show 1≤2 by decide)
 refine ⟨_,z8 (zD (zl zT (pv 0) zi (zn _)) (z8 (zk (qO (pv 1) (z6 (z0j (zp FT hr rfl (z6 (qF (pv 1)) z7))) z7))) (zc (zm qc))) zu)
  (z8 (zA (i:=2) z4j.nd rfl (Or.inl rfl) (qF (pv 1)))
  (z8 (zD (zl zT (pv 0) zi (zn _)) (zc (zA (i:=3) z4j.nd rfl (Or.inl rfl) (qG (qK (zp FW hr1 rfl (z6 (pv 2) z7))) (zE (z6 zi (z6 (zJ qU zg (pv 2)) z7))) (zE (z6 zi (z6 zi z7))))))
   (zc (zA (i:=3) z4j.nd rfl (Or.inl rfl) (zp FP hr rfl (z6 (pv 0) (z6 (qF (pv 1)) (z6 (pv 2) z7)))))))
  z8e)),?_⟩
 try dsimp only [L2.cxOf,L2.Cx.nox]
 by_cases h2:op∈jo
 ·unfold rowM at hg
  rw [kC h2] at hg
  have n1:decide (op="not")=false:=kh fun z=>by rw [z] at h2;revert h2;decide+kernel
  have n2:decide (op="neg")=false:=kh fun z=>by rw [z] at h2;revert h2;decide+kernel
  unfold gTwo at hg
  cases hy:m.st.getLast? with
  | none=>rw [hy] at hg;cases hg
  | some y=>
   rw [hy] at hg
   dsimp only at hg
   cases hx:m.st.dropLast.getLast? with
   | none=>rw [hx] at hg;cases hg
   | some x=>
    rw [hx] at hg
    dsimp only at hg
    by_cases hz:jx x=true∧jx y=true
    case neg=>rw [kz hz] at hg;cases hg
    rw [kC hz] at hg
    cases hm:jm op x y with
    | none=>rw [hm] at hg;cases hg
    | some rr=>
     obtain ⟨r1,r2⟩:=rr
     rw [hm] at hg
     dsimp only at hg
     refine ⟨_,rfl,rfl,false,(congrArg V.bl j9).trans (by rw [n1]),iteF ?_⟩
     refine ⟨_,rfl,.inl ⟨rfl,_,SqL.of hA.st⟩,sa,_,_,rfl,rfl,hA.st,zX hy,?_⟩
     have A1:=hA.setSt m.st.dropLast
     refine ⟨_,rfl,rfl,false,(congrArg V.bl j9).trans (by rw [n2]),iteF ?_⟩
     refine ⟨_,rfl,_,rfl,.inl ⟨rfl,_,SqL.of A1.st⟩,sa,_,_,rfl,rfl,A1.st,zX hx,_,rfl,op,x,y,r1,r2,rfl,jl hz.1,jl hz.2,h2,hm,fun t H' s' ht=>?_⟩
     have A2:=(A1.setSt m.st.dropLast.dropLast).same s'
     exact ⟨_,_,sa,nd,oa,t,_,r1,r2,res,m',rfl,ht,A2,z3m hm,hg,fun H2 a2 r2'=>q H2 a2 ((zF.a.trans (zF.a.trans (zF.of s'))).trans r2')⟩
 ·have h1:op∈jK:=hop.resolve_left h2
  unfold rowM at hg
  rw [kz h2,kC h1] at hg
  unfold gOne at hg
  cases hx:m.st.getLast? with
  | none=>rw [hx] at hg;cases hg
  | some x=>
   rw [hx] at hg
   dsimp only at hg
   by_cases hz:jx x=true
   case neg=>rw [kz hz] at hg;cases hg
   rw [kC hz] at hg
   cases hm:QJ op x with
   | none=>rw [hm] at hg;cases hg
   | some rr=>
    obtain ⟨r1,r2⟩:=rr
    rw [hm] at hg
    dsimp only at hg
    have hxm:x∈m.st:=List.mem_of_getLast? hx
    have A1:=hA.setSt m.st.dropLast
    unfold jK at h1
    simp only [kF,kq,or_false] at h1
    rcases h1 with h | h
    ·subst h
     refine ⟨_,rfl,rfl,false,rfl,iteF ?_⟩
     refine ⟨_,rfl,.inl ⟨rfl,_,SqL.of hA.st⟩,sa,_,_,rfl,rfl,hA.st,zX hx,?_⟩
     refine ⟨_,rfl,rfl,true,rfl,iteT ?_⟩
     refine ⟨_,rfl,x,rfl,jl hz,jC x,rfl,?_⟩
     have fin:∀{t:Addr} {tv:List V},(upd H sa (.lst m.st.dropLast)) t=none→tv=tagV r1 r2→T121 { nx:=fun _ H'=>Q .non H',rt:=Q } [some (.str "neg"),some (.ref sa),some x,some (.ref t)] (upd (upd H sa (.lst m.st.dropLast)) t (.tup tv)):=fun {t tv} h e=>by
      subst e
      have s1:=zh h (.tup (tagV r1 r2))
      exact ⟨_,_,sa,nd,oa,t,_,r1,r2,res,m',rfl,zb,A1.same s1,z3o hm,hg,fun H2 a2 r2'=>q H2 a2 ((zF.a.trans (zF.of s1)).trans r2')⟩
     cases x with
     | int i=>
      cases hm
      exact iteT ⟨_,rfl,_,_,rfl,rfl,by show 2≤sizeLine;decide,fun t ht=>fin ht (by show [V.str "value",V.int (0 - i)]=[V.str "value",V.int (-i)];rw [Int.zero_sub])⟩
     | non=>cases hm;exact iteF ⟨by show 2≤sizeLine;decide,fun t ht=>fin ht rfl⟩
     | bl b=>cases hm;exact iteF ⟨by show 2≤sizeLine;decide,fun t ht=>fin ht rfl⟩
     | str z=>cases hm;exact iteF ⟨by show 2≤sizeLine;decide,fun t ht=>fin ht rfl⟩
     | _=>cases hz
    ·subst h
     have hm:some (V.non,V.bl (!jc x))=some (r1,r2):=hm
     cases hm
     unfold pofM at hg
     dsimp only at hg
     by_cases hs:qC m.st.dropLast.length=true
     case neg=>rw [kz hs] at hg;cases hg
     rw [kC hs] at hg
     cases hg
     refine ⟨_,rfl,rfl,true,rfl,iteT ?_⟩
     refine ⟨_,rfl,.inl ⟨rfl,_,SqL.of hA.st⟩,_,rfl,.inl ⟨rfl,_,SqL.of hA.st⟩,sa,_,_,rfl,rfl,hA.st,zX hx,x,rfl,jl hz,_,rfl,sa,_,_,rfl,rfl,A1.st,qj hs,?_⟩
     rw [z1M (hok x hxm)]
     exact q _ (A1.setSt _) (zF.a.trans zF.a)
end
end My
local macro_rules | `(tactic| trivial)=>`(tactic| (dsimp only;decide+kernel))
local macro_rules | `(tactic| trivial)=>`(tactic| decide+kernel)
namespace My
open PySem PySem.Spec PyProof.Rows L2
variable {P:Program} {w:World} {K:ky} {mg:Str→Option Value} {base:Heap}
section
theorem z3q {st:List V} {v:V} (hv:st.getLast?=some v):atI st (-1)=some v:=by
 have hne:0 < st.length:=by
  have:=(kf.mp (zX hv)).1
  lia
 unfold atI ixN
 rw [kz (by decide),kC (by lia)]
 have:((-1:Int)+(st.length:Int)).toNat=st.length - 1:=by lia
 rw [this]
 exact zX hv
noncomputable def goAt (res:Res) (j p:Nat):Nat:=match res with
 | .go=>j
 | _=>p+1
def spGo:Sp:=fun vs H Q _=>∃(op:Str) (mk:Int) (p j:Nat) (sa nd oa wd:Addr) (kvs:List (Key × V)) (rs:List Row) (m:Mst) (res:Res) (m':Mst),vs=[.str op,.int mk,.int (p:Nat),.ref sa,.ref wd]∧op∈jumping∧MA H sa nd oa m∧okVs m.st∧H wd=some (.dK kvs)∧jI kvs rs∧zw rs mk=some j∧rowM op (.int mk) m=some (res,m')∧∀H',MA H' sa nd oa m'→zF H H' sa nd oa→Q (.int (goAt res j p:Nat)) H'
theorem z9c:zj ["_law_op","_law_arg","_law_at","_law_stack","_law_where"] ["_law_op","_law_arg","_law_at","_law_stack","_law_where"] (zd (top 122)):=fsM
theorem z9Q (D:zo K mg "_law_goes" (top 122)) (FT:FN P w K mg base 2 "_law_true" ["_law_value_here"] z10):FN P w K mg base 3 "_law_goes" ["_law_op","_law_arg","_law_at","_law_stack","_law_where"] spGo:=by
 refine FN.o D z9c fun f cdv A outer s H vs Q E hr h=>?_
 obtain ⟨op,mk,p,j,sa,nd,oa,wd,kvs,rs,m,res,m',rfl,hop,hA,hok,hwd,hL,hj,hg,q⟩:=h
 have hu:=Zq hr
 refine ⟨_,z8 (zD (zl zT (pv 0) zi (zn _)) (zc (zm (jz hu (pv 4) (pv 1) (fun _ _=>rfl)))) zu)
  (z8 (zD (zl zT (zp FT hr rfl (z6 (zP zL (pv 3) (Z1 jb zg) (fun _ _=>rfl)) z7)) (qv qx (pv 0) (zE (z6 zi (z6 zi z7))) rfl) (zn _))
   (z8 (zD (zl qx (pv 0) (zE (z6 zi (z6 zi z7))) rfl) (zc (zk (qF (pv 3)))) zu)
    (zc (zm (jz hu (pv 4) (pv 1) (fun _ _=>rfl))))) zu)
  (z8 (zk (qF (pv 3)))
  (zc (zm (zJ qV (pv 2) zg))))),?_⟩
 try dsimp only [L2.cxOf,L2.Cx.nox]
 have hgt:∀{H':Hp},H' wd=some (.dK kvs)→DGet H' wd (.int mk) (some (.int (j:Int))):=fun {H'} h=>by
  have:valV kvs (Sum.inl mk:Key)=some (.int (j:Int)):=by rw [hL mk,hj];rfl
  rw [←this]
  exact DGet.k (k:=Sum.inl mk) h
 unfold jumping at hop
 simp only [kF,kq,or_false] at hop
 by_cases h0:op="jump"
 ·subst h0
  have e0:rowM "jump" (.int mk) m=z2u "jump" (.int mk) m:=by (unfold rowM;repeat (first | rw [kC (by trivial)] | rw [kz (by trivial)]))
  rw [e0] at hg
  cases hg
  refine ⟨_,rfl,rfl,_,rfl,?_⟩
  rw [eqS,show decide (("jump":Str)="jump")=true by trivial]
  exact iteT ⟨_,rfl,_,rfl,wd,_,rfl,hgt hwd,q H hA zF.refl⟩
 refine ⟨_,rfl,rfl,_,rfl,?_⟩
 rw [eqS,kh h0]
 refine iteF ?_
 have four:op="iftrue"∨op="iffalse"∨op="ortrue"∨op="orfalse":=hop.resolve_left h0
 have mod:∃v,m.st.getLast?=some v∧jx v=true∧(res,m')=(if jc v=inT op ["iftrue","ortrue"] then (Res.go,if inT op ["iftrue","iffalse"]=true then { m with st:=m.st.dropLast } else m) else (Res.next,{ m with st:=m.st.dropLast })):=by
  rcases four with rfl | rfl | rfl | rfl
  ·have e0:rowM "iftrue" (.int mk) m=gIf "iftrue" (.int mk) m:=by (unfold rowM;repeat (first | rw [kC (by trivial)] | rw [kz (by trivial)]))
   rw [e0] at hg
   unfold gIf at hg
   cases hv:m.st.getLast? with
   | none=>rw [hv] at hg;cases hg
   | some v=>
    rw [hv] at hg
    dsimp only at hg
    by_cases hz:jx v=true
    case neg=>rw [kz hz] at hg;cases hg
    rw [kC hz] at hg
    refine ⟨v,rfl,hz,?_⟩
    rw [show decide (("iftrue":Str)="iftrue")=true by trivial] at hg
    rw [show inT "iftrue" ["iftrue","ortrue"]=true by trivial,show inT "iftrue" ["iftrue","iffalse"]=true by trivial,kC (rfl:true=true)]
    by_cases ht:jc v=true
    ·rw [kC ht] at hg ⊢;cases hg;rfl
    ·rw [kz ht] at hg ⊢;cases hg;rfl
  ·have e0:rowM "iffalse" (.int mk) m=gIf "iffalse" (.int mk) m:=by (unfold rowM;repeat (first | rw [kC (by trivial)] | rw [kz (by trivial)]))
   rw [e0] at hg
   unfold gIf at hg
   cases hv:m.st.getLast? with
   | none=>rw [hv] at hg;cases hg
   | some v=>
    rw [hv] at hg
    dsimp only at hg
    by_cases hz:jx v=true
    case neg=>rw [kz hz] at hg;cases hg
    rw [kC hz] at hg
    refine ⟨v,rfl,hz,?_⟩
    rw [show decide (("iffalse":Str)="iftrue")=false by trivial] at hg
    rw [show inT "iffalse" ["iftrue","ortrue"]=false by trivial,show inT "iffalse" ["iftrue","iffalse"]=true by trivial,kC (rfl:true=true)]
    by_cases ht:jc v=false
    ·rw [kC ht] at hg ⊢;cases hg;rfl
    ·rw [kz ht] at hg ⊢;cases hg;rfl
  ·have e0:rowM "ortrue" (.int mk) m=gOr "ortrue" (.int mk) m:=by (unfold rowM;repeat (first | rw [kC (by trivial)] | rw [kz (by trivial)]))
   rw [e0] at hg
   unfold gOr at hg
   cases hv:m.st.getLast? with
   | none=>rw [hv] at hg;cases hg
   | some v=>
    rw [hv] at hg
    dsimp only at hg
    by_cases hz:jx v=true
    case neg=>rw [kz hz] at hg;cases hg
    rw [kC hz] at hg
    refine ⟨v,rfl,hz,?_⟩
    rw [show decide (("ortrue":Str)="ortrue")=true by trivial] at hg
    rw [show inT "ortrue" ["iftrue","ortrue"]=true by trivial,show inT "ortrue" ["iftrue","iffalse"]=false by trivial,kz ka]
    by_cases ht:jc v=true
    ·rw [kC ht] at hg ⊢;cases hg;rfl
    ·rw [kz ht] at hg ⊢;cases hg;rfl
  ·have e0:rowM "orfalse" (.int mk) m=gOr "orfalse" (.int mk) m:=by (unfold rowM;repeat (first | rw [kC (by trivial)] | rw [kz (by trivial)]))
   rw [e0] at hg
   unfold gOr at hg
   cases hv:m.st.getLast? with
   | none=>rw [hv] at hg;cases hg
   | some v=>
    rw [hv] at hg
    dsimp only at hg
    by_cases hz:jx v=true
    case neg=>rw [kz hz] at hg;cases hg
    rw [kC hz] at hg
    refine ⟨v,rfl,hz,?_⟩
    rw [show decide (("orfalse":Str)="ortrue")=false by trivial] at hg
    rw [show inT "orfalse" ["iftrue","ortrue"]=false by trivial,show inT "orfalse" ["iftrue","iffalse"]=false by trivial,kz ka]
    by_cases ht:jc v=false
    ·rw [kC ht] at hg ⊢;cases hg;rfl
    ·rw [kz ht] at hg ⊢;cases hg;rfl
 clear hg
 obtain ⟨v,hv,hz,hrm⟩:=mod
 have hvm:=hok v (List.mem_of_getLast? hv)
 refine ⟨_,rfl,1,rfl,sa,_,_,_,rfl,rfl,SqL.of hA.st,z3q hv,v,rfl,jl hz,_,rfl,by show 2≤sizeLine;decide,fun x1 hx1=>⟨x1,_,rfl,.inr (SqT.of zb),rfl,rfl,rfl,decide (QN v=inT op ["iftrue","ortrue"]),?_,?_⟩⟩
 ·show V.bl (decide (V.bl (QN v)=V.bl (inT op ["iftrue","ortrue"])))=_
  congr 1
  rw [Bool.eq_iff_iff]
  simp
 have s1:=zh hx1 (.tup [.str "iftrue",.str "ortrue"])
 have A1:=hA.same s1
 have hw1:=s1 _ _ hwd
 have r1:zF H _ sa nd oa:=zF.of s1
 generalize upd H x1 (.tup [.str "iftrue",.str "ortrue"])=H1 at *
 rw [z1M hvm]
 by_cases ht:jc v=inT op ["iftrue","ortrue"]
 ·rw [kC ht] at hrm
  rw [ki ht]
  refine iteT ⟨_,rfl,by show 2≤sizeLine;decide,fun x2 hx2=>⟨x2,_,rfl,.inr (SqT.of zb),rfl,rfl,inT op ["iftrue","iffalse"],rfl,?_⟩⟩
  have s2:=zh hx2 (.tup [.str "iftrue",.str "iffalse"])
  have A2:=A1.same s2
  have hw2:=s2 _ _ hw1
  have r2:=r1.trans (zF.of s2)
  generalize upd H1 x2 (.tup [.str "iftrue",.str "iffalse"])=H2 at *
  cases hi:inT op ["iftrue","iffalse"] with
  | true=>
   rw [hi,kC rfl] at hrm
   cases hrm
   refine iteT ⟨_,rfl,.inl ⟨rfl,_,SqL.of A2.st⟩,sa,_,_,rfl,rfl,A2.st,zX hv,?_⟩
   have nsw:wd≠sa:=zC hw2 A2.st nofun
   exact ⟨_,rfl,_,rfl,wd,_,rfl,hgt (by rw [zf nsw];exact hw2),q _ (A2.setSt _) (r2.trans zF.a)⟩
  | false=>
   rw [hi,kz ka] at hrm
   cases hrm
   exact iteF ⟨_,rfl,_,rfl,wd,_,rfl,hgt hw2,q _ A2 r2⟩
 ·rw [kz ht] at hrm
  cases hrm
  rw [kh ht]
  refine iteF ⟨_,rfl,.inl ⟨rfl,_,SqL.of A1.st⟩,sa,_,_,rfl,rfl,A1.st,zX hv,?_⟩
  exact ⟨_,rfl,_,_,rfl,rfl,q _ (A1.setSt _) (r1.trans zF.a)⟩
end
end My
local macro_rules | `(tactic| trivial)=>`(tactic| (dsimp only;decide+kernel))
local macro_rules | `(tactic| trivial)=>`(tactic| decide+kernel)
namespace My
open PySem PySem.Spec PyProof.Rows L2
variable {P:Program} {w:World} {K:ky} {mg:Str→Option Value} {base:Heap}
section
def spEl:Sp:=fun vs H Q _=>∃(op:Str) (arg:V) (sa nd oa:Addr) (m:Mst) (res:Res) (m':Mst),vs=[.str op,arg,.ref sa,.ref oa]∧op∈(["push","copy","swap","drop","tell","raise"]:List Str)∧MA H sa nd oa m∧okVs m.st∧rowM op arg m=some (res,m')∧∀H',MA H' sa nd oa m'→zF H H' sa nd oa→Q (kv res) H'
noncomputable abbrev N124:List Str:=["_law_op","_law_arg","_law_stack","_law_out","_law_one","_law_other","_law_kind"]
theorem z6c:zj N124 ["_law_op","_law_arg","_law_stack","_law_out"] (zd (top 124)):=fsM
theorem z9S (D:zo K mg "_law_else" (top 124)) (G:Glo mg):FN P w K mg base 1 "_law_else" ["_law_op","_law_arg","_law_stack","_law_out"] spEl:=by
 refine FN.o D z6c fun f cdv A outer s H vs Q E hr h=>?_
 obtain ⟨op,arg,sa,nd,oa,m,res,m',rfl,hop,hA,hok,hg,q⟩:=h
 refine ⟨_,z8 (zD (zl zT (pv 0) zi (zn _)) (zc (zk (qO (pv 2) (z6 (pv 1) z7))))
  (zc (zD (zl zT (pv 0) zi (zn _)) (zc (zk (qO (pv 2) (z6 (zP zL (pv 2) (zJ qU zg (pv 1)) (fun _ _=>rfl)) z7))))
  (zc (zD (zl zT (pv 0) zi (zn _))
   (z8 (ZD (i:=4) (j:=5) rfl z6c.nd rfl rfl (by decide) rfl rfl (z6 (zP zL (pv 2) (Z1 jb zg) (fun _ _=>rfl)) (z6 (zP zL (pv 2) (zJ qU zg (pv 1)) (fun _ _=>rfl)) z7)) rfl)
   (z8 (j6 (pv 5) (Qb (pv 2) (Z1 jb zg) jE))
   (zc (j6 (pv 4) (Qb (pv 2) (zJ qU zg (pv 1)) jE)))))
  (zc (zD (zl zT (pv 0) zi (zn _)) (zc (zk (qF (pv 2))))
  (zc (zD (zl zT (pv 0) zi (zn _)) (zc (zk (qO (pv 3) (z6 (qF (pv 2)) z7))))
   (z8 (zA (i:=6) z6c.nd rfl (Or.inl rfl) (qF (pv 2)))
    (zc (zm (qG (qK (zy zM rfl G.isinstance zx (z6 (pv 6) (z6 (Z2 "str" rfl G.str z01) z7)))) (pv 6) zi)))))))))))))
  (zc (zm qc)),?_⟩
 try dsimp only [L2.cxOf,L2.Cx.nox]
 have no:∀a b:Str,a≠b→decide (V.str a=V.str b)=false:=fun a b h=>by rw [eqS];exact kh h
 have yes:∀a:Str,decide (V.str a=V.str a)=true:=fun a=>ki rfl
 simp only [kF,kq,or_false] at hop
 rcases hop with rfl | rfl | rfl | rfl | rfl | rfl
 ·-- push
  have e0:rowM "push" arg m=z0z "push" arg m:=by (unfold rowM;repeat (first | rw [kC (by trivial)] | rw [kz (by trivial)]))
  rw [e0] at hg
  unfold z0z at hg
  by_cases hz:qC m.st.length=true
  case neg=>rw [kz hz] at hg;cases hg
  rw [kC hz] at hg
  cases hg
  refine ⟨_,rfl,rfl,_,rfl,?_⟩
  rw [yes]
  exact iteT ⟨_,rfl,.inl ⟨rfl,_,SqL.of hA.st⟩,_,rfl,sa,_,_,rfl,rfl,hA.st,qj hz,q _ (hA.setSt _) zF.a⟩
 ·-- copy
  have e0:rowM "copy" arg m=JR "copy" arg m:=by (unfold rowM;repeat (first | rw [kC (by trivial)] | rw [kz (by trivial)]))
  rw [e0] at hg
  unfold JR at hg
  cases hd:J2 m.st arg with
  | none=>rw [hd] at hg;cases hg
  | some jv=>
   obtain ⟨j,v⟩:=jv
   rw [hd] at hg
   dsimp only at hg
   by_cases hz:qC m.st.length=true
   case neg=>rw [kz hz] at hg;cases hg
   rw [kC hz] at hg
   cases hg
   obtain ⟨n,rfl⟩:∃n,arg=.int n:=by
    cases arg with
    | int n=>exact ⟨n,rfl⟩
    | _=>cases hd
   obtain ⟨h1,h2⟩:=JV hd
   have hat:atI m.st (0 - n)=some v:=by
    unfold atI
    rw [Int.zero_sub,h1]
    exact h2
   refine ⟨_,rfl,rfl,_,rfl,?_⟩
   rw [no _ _ (by trivial)]
   refine iteF ⟨_,rfl,rfl,_,rfl,?_⟩
   rw [yes]
   exact iteT ⟨_,rfl,.inl ⟨rfl,_,SqL.of hA.st⟩,_,rfl,_,rfl,_,_,rfl,rfl,sa,_,_,v,rfl,rfl,SqL.of hA.st,hat,sa,_,_,rfl,rfl,hA.st,qj hz,q _ (hA.setSt _) zF.a⟩
 ·-- swap
  have e0:rowM "swap" arg m=JP "swap" arg m:=by (unfold rowM;repeat (first | rw [kC (by trivial)] | rw [kz (by trivial)]))
  rw [e0] at hg
  unfold JP at hg
  cases hd:J2 m.st arg with
  | none=>rw [hd] at hg;cases hg
  | some jv=>
   obtain ⟨j,v⟩:=jv
   cases hv:m.st.getLast? with
   | none=>rw [hd,hv] at hg;cases hg
   | some t=>
    rw [hd,hv] at hg
    cases hg
    obtain ⟨n,rfl⟩:∃n,arg=.int n:=by
     cases arg with
     | int n=>exact ⟨n,rfl⟩
     | _=>cases hd
    obtain ⟨h1,h2⟩:=JV hd
    have hat:atI m.st (0 - n)=some v:=by
     unfold atI
     rw [Int.zero_sub,h1]
     exact h2
    have hne:0 < m.st.length:=by
     have:=(kf.mp (zX hv)).1
     lia
    have hlx:ixN m.st.length (-1)=some (m.st.length - 1):=by
     unfold ixN
     rw [kz (by decide),kC (by lia)]
     congr 1
     lia
    refine ⟨_,rfl,rfl,_,rfl,?_⟩
    rw [no _ _ (by trivial)]
    refine iteF ⟨_,rfl,rfl,_,rfl,?_⟩
    rw [no _ _ (by trivial)]
    refine iteF ⟨_,rfl,rfl,_,rfl,?_⟩
    rw [yes]
    refine iteT ⟨_,rfl,1,rfl,sa,_,_,t,rfl,rfl,SqL.of hA.st,z3q hv,_,rfl,_,rfl,_,_,rfl,rfl,sa,_,_,v,rfl,rfl,SqL.of hA.st,hat,_,_,rfl,?_⟩
    refine ⟨_,rfl,_,rfl,1,rfl,sa,_,_,m.st.length - 1,rfl,rfl,hA.st,hlx,?_⟩
    have A1:=hA.setSt (m.st.set (m.st.length - 1) v)
    refine ⟨_,rfl,_,rfl,_,rfl,_,_,rfl,rfl,sa,_,_,j,rfl,rfl,A1.st,by rw [List.length_set,Int.zero_sub];exact h1,?_⟩
    exact q _ (A1.setSt _) (zF.a.trans zF.a)
 ·-- drop
  have e0:rowM "drop" arg m=JQ "drop" arg m:=by (unfold rowM;repeat (first | rw [kC (by trivial)] | rw [kz (by trivial)]))
  rw [e0] at hg
  unfold JQ at hg
  cases hv:m.st.getLast? with
  | none=>rw [hv] at hg;cases hg
  | some v=>
   rw [hv] at hg
   cases hg
   refine ⟨_,rfl,rfl,_,rfl,?_⟩
   rw [no _ _ (by trivial)]
   refine iteF ⟨_,rfl,rfl,_,rfl,?_⟩
   rw [no _ _ (by trivial)]
   refine iteF ⟨_,rfl,rfl,_,rfl,?_⟩
   rw [no _ _ (by trivial)]
   refine iteF ⟨_,rfl,rfl,_,rfl,?_⟩
   rw [yes]
   exact iteT ⟨_,rfl,.inl ⟨rfl,_,SqL.of hA.st⟩,sa,_,_,rfl,rfl,hA.st,zX hv,q _ (hA.setSt _) zF.a⟩
 ·-- tell
  have e0:rowM "tell" arg m=JO "tell" arg m:=by (unfold rowM;repeat (first | rw [kC (by trivial)] | rw [kz (by trivial)]))
  rw [e0] at hg
  unfold JO at hg
  cases hv:m.st.getLast? with
  | none=>rw [hv] at hg;cases hg
  | some v=>
   rw [hv] at hg
   dsimp only at hg
   by_cases hz:qC m.sd.length=true
   case neg=>rw [kz hz] at hg;cases hg
   rw [kC hz] at hg
   cases hg
   have A1:=hA.setSt m.st.dropLast
   refine ⟨_,rfl,rfl,_,rfl,?_⟩
   rw [no _ _ (by trivial)]
   refine iteF ⟨_,rfl,rfl,_,rfl,?_⟩
   rw [no _ _ (by trivial)]
   refine iteF ⟨_,rfl,rfl,_,rfl,?_⟩
   rw [no _ _ (by trivial)]
   refine iteF ⟨_,rfl,rfl,_,rfl,?_⟩
   rw [no _ _ (by trivial)]
   refine iteF ⟨_,rfl,rfl,_,rfl,?_⟩
   rw [yes]
   exact iteT ⟨_,rfl,.inl ⟨rfl,_,SqL.of hA.sd⟩,_,rfl,.inl ⟨rfl,_,SqL.of hA.st⟩,sa,_,_,rfl,rfl,hA.st,zX hv,oa,_,_,rfl,rfl,A1.sd,qj hz,q _ (A1.setSd _) (zF.a.trans zF.c)⟩
 ·-- raise
  have e0:rowM "raise" arg m=ZP "raise" arg m:=by (unfold rowM;repeat (first | rw [kC (by trivial)] | rw [kz (by trivial)]))
  rw [e0] at hg
  unfold ZP at hg
  cases hv:m.st.getLast? with
  | none=>rw [hv] at hg;cases hg
  | some v=>
   rw [hv] at hg
   dsimp only at hg
   have hvk:=hok v (List.mem_of_getLast? hv)
   rw [kC (jF hvk)] at hg
   refine ⟨_,rfl,rfl,_,rfl,?_⟩
   rw [no _ _ (by trivial)]
   refine iteF ⟨_,rfl,rfl,_,rfl,?_⟩
   rw [no _ _ (by trivial)]
   refine iteF ⟨_,rfl,rfl,_,rfl,?_⟩
   rw [no _ _ (by trivial)]
   refine iteF ⟨_,rfl,rfl,_,rfl,?_⟩
   rw [no _ _ (by trivial)]
   refine iteF ⟨_,rfl,rfl,_,rfl,?_⟩
   rw [no _ _ (by trivial)]
   refine iteF ⟨_,rfl,.inl ⟨rfl,_,SqL.of hA.st⟩,sa,_,_,rfl,rfl,hA.st,zX hv,?_⟩
   have A1:=hA.setSt m.st.dropLast
   cases v with
   | str z=>
    have hz:=kE (show decide (z∈j3)=true from hvk)
    have hk:z1i (.str z)=some z:=by unfold z1i;dsimp only;rw [kC (Zh z hz).2]
    rw [hk] at hg
    cases hg
    exact ⟨_,rfl,_,"str",_,true,rfl,.str z,rfl,_,rfl,iteT ⟨_,rfl,q _ A1 zF.a⟩⟩
   | non=>cases hg;exact ⟨_,rfl,_,"str",_,false,rfl,.non,rfl,_,rfl,iteF (q _ A1 zF.a)⟩
   | bl b=>cases hg;exact ⟨_,rfl,_,"str",_,false,rfl,.bl b,rfl,_,rfl,iteF (q _ A1 zF.a)⟩
   | int i=>cases hg;exact ⟨_,rfl,_,"str",_,false,rfl,.int i,rfl,_,rfl,iteF (q _ A1 zF.a)⟩
   | _=>cases hvk
end
section
def spPa:Sp:=fun vs H Q _=>∃(l sh:Addr) (as gas:List Addr) (rs:List Row) (d p n p':Nat) (gs gs':List Gd),vs=[.ref l,.int (p:Nat),.int (d:Nat),.ref sh]∧H l=some (.lst (as.map V.ref))∧zS H as rs∧H sh=some (.lst (gas.map V.ref))∧GsIn H gas gs∧l≠sh∧qN rs d n p gs=some (p',gs')∧
 ∀gas' H',qW H H' sh→H' sh=some (.lst (gas'.map V.ref))→GsIn H' gas' gs'→Q (.int (p':Nat)) H'
theorem n_of (W:Nat→L2.St→Hp→Prop) (m:Nat):∃N:L2.St→Hp→Prop,(∀σ' H',N σ' H'→∃m',m' < m∧W m' σ' H')∧∀m' σ' H',m' < m→W m' σ' H'→N σ' H':=⟨fun σ' H'=>∃m',m' < m∧W m' σ' H',fun _ _ h=>h,fun m' _ _ a b=>⟨m',a,b⟩⟩
def PW (H:Hp) (rs:List Row) (l sh:Addr) (d p':Nat) (gs':List Gd) (k:Nat) (σ:L2.St) (H2:Hp):Prop:=∃p gs gas,σ=[some (.ref l),some (.int (p:Nat)),some (.int (d:Nat)),some (.ref sh)]∧qN rs d k p gs=some (p',gs')∧qW H H2 sh∧H2 sh=some (.lst (gas.map V.ref))∧GsIn H2 gas gs
theorem z7I:zj ["_law_code_here","_law_at","_law_depth","_law_shields"] ["_law_code_here","_law_at","_law_depth","_law_shields"] (zd (top 126)):=fsM
theorem z9I (D:zo K mg "_law_passed" (top 126)):FN P w K mg base 1 "_law_passed" ["_law_code_here","_law_at","_law_depth","_law_shields"] spPa:=by
 refine FN.o D z7I fun f cdv A outer s H vs Q E hr h=>?_
 obtain ⟨l,sh,as,gas,rs,d,p,n,p',gs,gs',rfl,hl,hR,hsh,hgs,nls,hcm,q⟩:=h
 refine ⟨_,z8 (ZC PassesOwn.never (zl qx (zP qo (zP zL (pv 0) (pv 1) (fun _ _=>rfl)) zg (fun _ _=>rfl)) (zE (z6 zi (z6 zi (z6 zi z7)))) rfl)
   (z8 (zD (zl zT (zP qo (zP zL (pv 0) (pv 1) (fun _ _=>rfl)) zg (fun _ _=>rfl)) zi (zn _)) (zc (zk (qO (pv 3) (z6 (zE (z6 (zP qo (zP zL (pv 0) (pv 1) (fun _ _=>rfl)) zg (fun _ _=>rfl)) (z6 (pv 2) z7))) z7)))) zu)
   (z8 (zD (zl zT (zP qo (zP zL (pv 0) (pv 1) (fun _ _=>rfl)) zg (fun _ _=>rfl)) zi (zn _)) (zc (zk (qF (pv 3)))) zu)
   (zc (zA (i:=1) z7I.nd rfl (Or.inl rfl) (zJ qV (pv 1) zg))))))
  (zc (zm (pv 1))),?_⟩
 try dsimp only [L2.cxOf,L2.Cx.nox]
 have row:∀{p n gs p' gs'} {H2:Hp},qN rs d n p gs=some (p',gs')→qW H H2 sh→∃r ra,rs[p]?=some r∧(as.map V.ref)[p]?=some (V.ref ra)∧H2 ra=some (.tup (tupV r)):=fun {p n gs p' gs' H2} h k2=>by
  cases n with
  | zero=>cases h
  | succ n=>
   unfold qN at h
   cases hr:rs[p]? with
   | none=>rw [hr] at h;cases h
   | some r=>
    obtain ⟨ra,e1,e2⟩:=hR.get' hr
    exact ⟨r,ra,rfl,e1,k2 _ _ e2 (zC e2 hsh nofun)⟩
 refine ⟨PW H rs l sh d p' gs',⟨n,p,gs,gas,rfl,hcm,fun _ _ e _=>e,hsh,hgs⟩,?_⟩
 clear hcm hgs
 rintro k σ H2 ⟨p,gs,gas2,rfl,hcm,k2,v1,v2⟩
 obtain ⟨r,ra,hrp,hra,har⟩:=row hcm k2
 have hl2:=k2 _ _ hl nls
 refine ⟨_,rfl,_,rfl,l,_,_,_,rfl,rfl,SqL.of hl2,zq hra,ra,_,_,_,rfl,rfl,SqT.of har,zq (j:=0) rfl,by show 3≤sizeLine;decide,fun t ht=>?_⟩
 have s3:=zh ht (.tup [.str "label",.str "try",.str "endtry"])
 have k3:qW H (upd H2 t (.tup [.str "label",.str "try",.str "endtry"])) sh:=fun b o e h=>s3 _ _ (k2 b o e h)
 have v1':=s3 _ _ v1
 have v2':=v2.same s3
 have hl3:=s3 _ _ hl2
 have har3:=s3 _ _ har
 refine ⟨t,_,rfl,.inr (SqT.of zb),rfl,rfl,inT r.op jD,rfl,?_⟩
 generalize upd H2 t (.tup [.str "label",.str "try",.str "endtry"])=H3 at *
 clear s3 k2 v1 v2 ht hl2 har
 cases k with
 | zero=>cases hcm
 | succ k=>
  unfold qN at hcm
  rw [hrp] at hcm
  dsimp only at hcm
  refine ite2 (fun cc=>?_) (fun cc=>?_)
  ·have cc:inT r.op jD=true:=cc
   rw [qT] at cc
   obtain ⟨N,hN1,hN2⟩:=n_of (PW H rs l sh d p' gs') (k+1)
   refine ⟨N,hN1,?_⟩
   refine ⟨_,rfl,_,rfl,l,_,_,_,rfl,rfl,SqL.of hl3,zq hra,ra,_,_,_,rfl,rfl,SqT.of har3,zq (j:=0) rfl,rfl,decide (r.op="try"),congrArg V.bl j9,?_⟩
   by_cases h2:r.op="try"
   ·have n1:¬r.op="label":=by rw [h2];decide+kernel
    have n3:¬r.op="endtry":=by rw [h2];decide+kernel
    rw [kz n1,kC h2] at hcm
    rw [ki h2]
    cases ha:r.arg with
    | int mk=>
     rw [ha] at hcm
     dsimp only at hcm
     by_cases hz:qC gs.length=true
     case neg=>rw [kz hz] at hcm;cases hcm
     rw [kC hz] at hcm
     have har3':H3 ra=some (.tup [.str r.op,.int mk,.int r.line]):=by rw [har3];unfold tupV;rw [ha]
     refine iteT ⟨_,rfl,.inl ⟨rfl,_,SqL.of v1'⟩,_,rfl,_,rfl,l,_,_,_,rfl,rfl,SqL.of hl3,zq hra,ra,_,_,_,rfl,rfl,SqT.of har3',zq (j:=1) rfl,_,rfl,by show 2≤sizeLine;decide,fun ga hga=>?_⟩
     have sg:=zh hga (.tup [.int mk,.int (d:Nat)])
     have hgl:gas2.length=gs.length:=v2'.length
     refine ⟨sh,_,_,rfl,rfl,sg _ _ v1',by rw [kj,hgl];exact qj hz,?_⟩
     have k4:qW H (upd (upd H3 ga (.tup [.int mk,.int (d:Nat)])) sh (.lst (gas2.map V.ref++[.ref ga]))) sh:=fun b o e h=>by rw [zf h];exact sg _ _ (k3 b o e h)
     have v3:(upd (upd H3 ga (.tup [.int mk,.int (d:Nat)])) sh (.lst (gas2.map V.ref++[.ref ga]))) sh=some (.lst ((gas2++[ga]).map V.ref)):=by rw [zb,kL];rfl
     have v4:GsIn (upd (upd H3 ga (.tup [.int mk,.int (d:Nat)])) sh (.lst (gas2.map V.ref++[.ref ga]))) (gas2++[ga]) (gs++[(mk,(d:Int))]):=by
      have kt:qr (upd H3 ga (.tup [.int mk,.int (d:Nat)])) (upd (upd H3 ga (.tup [.int mk,.int (d:Nat)])) sh (.lst (gas2.map V.ref++[.ref ga]))):=qr.upd (sg _ _ v1') rfl
      exact ((v2'.same sg).append (.cons zb .nil)).keep kt
     have hl4:(upd (upd H3 ga (.tup [.int mk,.int (d:Nat)])) sh (.lst (gas2.map V.ref++[.ref ga]))) l=some (.lst (as.map V.ref)):=by rw [zf nls];exact sg _ _ hl3
     have har4:(upd (upd H3 ga (.tup [.int mk,.int (d:Nat)])) sh (.lst (gas2.map V.ref++[.ref ga]))) ra=some (.tup (tupV r)):=by rw [zf (zC har3 v1' nofun)];exact sg _ _ har3
     generalize upd (upd H3 ga (.tup [.int mk,.int (d:Nat)])) sh (.lst (gas2.map V.ref++[.ref ga]))=H4 at *
     refine ⟨_,rfl,_,rfl,l,_,_,_,rfl,rfl,SqL.of hl4,zq hra,ra,_,_,_,rfl,rfl,SqT.of har4,zq (j:=0) rfl,rfl,decide (r.op="endtry"),congrArg V.bl j9,?_⟩
     rw [kh n3]
     exact iteF ⟨_,rfl,_,_,rfl,rfl,hN2 k _ _ (yd _) ⟨p+1,_,_,rfl,hcm,k4,v3,v4⟩⟩
    | _=>rw [ha] at hcm;cases hcm
   ·rw [kh h2]
    refine iteF ⟨_,rfl,_,rfl,l,_,_,_,rfl,rfl,SqL.of hl3,zq hra,ra,_,_,_,rfl,rfl,SqT.of har3,zq (j:=0) rfl,rfl,decide (r.op="endtry"),congrArg V.bl j9,?_⟩
    by_cases h3:r.op="endtry"
    ·have n1:¬r.op="label":=by rw [h3];decide+kernel
     rw [kz n1,kz h2,kC h3] at hcm
     rw [ki h3]
     by_cases hg:gs=[]
     ·rw [kC hg] at hcm;cases hcm
     rw [kz hg] at hcm
     obtain ⟨bs,ga,g,e1,e2,e3,e4⟩:=z1S v2' hg
     subst e1
     have hpop:((bs++[ga]).map V.ref).getLast?=some (V.ref ga):=by rw [kL];exact kK
     refine iteT ⟨_,rfl,.inl ⟨rfl,_,SqL.of v1'⟩,sh,_,_,rfl,rfl,v1',zX hpop,?_⟩
     refine ⟨_,rfl,_,_,rfl,rfl,hN2 k _ _ (yd _) ⟨p+1,gs.dropLast,bs,rfl,hcm,fun b o e h=>by rw [zf h];exact k3 b o e h,?_,e3.keep (qr.upd v1' rfl)⟩⟩
     rw [zb,kL,show ([ga]:List Addr).map V.ref=[V.ref ga] from rfl,kJ]
    ·rw [kh h3]
     have n1:r.op="label":=by
      unfold jD at cc
      simp only [kF,kq,or_false] at cc
      rcases cc with z | z | z
      ·exact z
      ·exact absurd z h2
      ·exact absurd z h3
     rw [kC n1] at hcm
     exact iteF ⟨_,rfl,_,_,rfl,rfl,hN2 k _ _ (yd _) ⟨p+1,gs,gas2,rfl,hcm,k3,v1',v2'⟩⟩
  ·have nn:r.op∉jD:=fun z=>cc (qT.mpr z)
   unfold jD at nn
   simp only [kF,kq,or_false,not_or] at nn
   rw [kz nn.1,kz nn.2.1,kz nn.2.2] at hcm
   cases hcm
   exact ⟨_,rfl,q gas2 H3 k3 v1' v2'⟩
end
set_option maxHeartbeats 8000000
theorem z6x {rs:List Row} {i:Nat} {m:Int} (h:zw rs m=some i):zw (rs.take i) m=none:=by
 cases e:zw (rs.take i) m with
 | none=>rfl
 | some j=>
  exfalso
  unfold zw at h e
  have hj:j < i:=by
   obtain ⟨hj,_⟩:=List.findIdx?_eq_some_iff_getElem.mp e
   rw [List.length_take] at hj
   lia
  rw [←List.take_append_drop i rs,List.findIdx?_append,e] at h
  have h:some j=some i:=h
  injection h with h
  lia
section
noncomputable abbrev N123:List Str:=["_law_code_here","_law_given_names","_law_steps","_law_where","_law_at","_law_row","_law_names","_law_stack","_law_shields","_law_out","_law_used","_law_op","_law_arg","_law_line","_law_kind","_law_here","_law_mark_here","_law_depth"]
theorem jf:zj N123 ["_law_code_here","_law_given_names","_law_steps"] (zd (top 123)):=fsM
noncomputable def stw (k:Nat):Stmt:=match (zN (top 123)).getD 5 (.Pass ⟨0,0,0,0⟩) with
 | .While _ b _ _=>b.getD k (.Pass ⟨0,0,0,0⟩)
 | s=>s
def TB8:TS:=fun D σ H=>∃(l wd nd sa sh oa:Addr) (p:V) (used line:Int) (kind:V) (x1 x2 x5 x11 x12 x15 x16 x17:Option V) (rs:List Row) (kvs:List (Key × V)) (m:Mst) (gas:List Addr) (gs:List Gd),
 σ=[some (.ref l),x1,x2,some (.ref wd),some p,x5,some (.ref nd),some (.ref sa),some (.ref sh),some (.ref oa),some (.int used),x11,x12,some (.int line),some kind,x15,x16,x17]∧
 H wd=some (.dK kvs)∧jI kvs rs∧MA H sa nd oa m∧H sh=some (.lst (gas.map V.ref))∧GsIn H gas gs∧sh≠sa∧sh≠oa∧m.st.length≤1000∧
 ((kind=.non∧D.nx σ H)∨∃k,kind=.str k∧
  ((gs=[]∧∀t ea H',Same H H'→H' t=some (.tup [.ref ea,.ref oa,.int used])→H' ea=some (.tup [.str "fault",.str k,.int line])→D.rt (.ref t) H')∨
  ∃(g:Gd) (j:Nat),gs.getLast?=some g∧zw rs g.1=some j∧∀sa' gas' x16' x17' H',qW H H' sh→H' sa'=some (.lst (cutV m.st none (some g.2)++[.str k]))→H sa'=none→H' sh=some (.lst (gas'.map V.ref))→GsIn H' gas' gs.dropLast→
   D.nx [some (.ref l),x1,x2,some (.ref wd),some (.int (j:Nat)),x5,some (.ref nd),some (.ref sa'),some (.ref sh),some (.ref oa),some (.int used),x11,x12,some (.int line),some kind,x15,x16',x17'] H'))
theorem tb8 {f:Addr} {cdv:Value} {A:Around} {outer:List Env} {s:Shared} {H0:Hp} {E:XK} (hr:Room 4 (A.deeper (envOfC "_law_run" (zd (top 123)) s.heap.objs.size f cdv))):PSs (cxOf CX0 P w K mg base N123 "_law_run" (zd (top 123)) f cdv A outer s H0 E).nox [stw 8] TB8:=by
 have hu:=Zq hr
 have hu0:(A.deeper (envOfC "_law_run" (zd (top 123)) s.heap.objs.size f cdv)).units < cLine:=by have:=hr.un;lia
 refine PSs.imp (zc (zD (zl Q4 (pv 14) qc (zn _))
  (z8 (zD (zl (z5L hu0) (pv 8) (qu z7) (zn _)) (zc (zm (zE (z6 (zE (z6 zi (z6 (pv 14) (z6 (pv 13) z7)))) (z6 (pv 9) (z6 (pv 10) z7)))))) zu)
  (z8 (j6 (qF (pv 8)) (jg rfl (zt (zB (i:=16) jf.nd rfl (Or.inl rfl)) (zt (zB (i:=17) jf.nd rfl (Or.inl rfl)) qy))))
  (z8 (zA (i:=7) jf.nd rfl (Or.inl rfl) (zJ z3f (Jx z2W (pv 7) z17 (z16 (pv 17))) (qu (z6 (pv 14) z7))))
  (zc (zA (i:=4) jf.nd rfl (Or.inl rfl) (jz hu (pv 3) (pv 16) (fun _ _=>rfl))))))) zu)) ?_
 rintro D σ H ⟨l,wd,nd,sa,sh,oa,p,used,line,kind,x1,x2,x5,x11,x12,x15,x16,x17,rs,kvs,m,gas,gs,rfl,hwd,hL,hA,hsh,hG,n1,n2,hst,q⟩
 rcases q with ⟨rfl,q⟩ | ⟨k,rfl,q⟩
 ·exact ⟨_,rfl,rfl,_,rfl,iteF q⟩
 refine ⟨_,rfl,rfl,_,rfl,iteT ?_⟩
 have hgl:gas.length=gs.length:=hG.length
 refine ⟨_,rfl,by show 0≤sizeLine;decide,fun e hE=>?_⟩
 have s1:=zh hE (.lst [])
 refine ⟨sh,e,_,rfl,rfl,SqL.of (s1 _ _ hsh),SqL.of zb,_,rfl,?_⟩
 have A1:=hA.same s1
 have hsh1:=s1 _ _ hsh
 have hwd1:=s1 _ _ hwd
 have hG1:=hG.same s1
 generalize upd H e (.lst [])=H1 at *
 rcases q with ⟨rfl,q⟩ | ⟨g,j,hg,hj,q⟩
 ·have e0:gas=[]:=List.eq_nil_of_length_eq_zero hgl
  subst e0
  refine iteT ⟨_,rfl,_,rfl,by show 3≤sizeLine;decide,fun ea hea=>⟨_,rfl,_,rfl,by show 3≤sizeLine;decide,fun t ht=>?_⟩⟩
  have s2:=zh hea (.tup [.str "fault",.str k,.int line])
  have s3:=zh ht (.tup [.ref ea,.ref oa,.int used])
  exact q t ea _ (s1.trans (s2.trans s3)) zb (s3 _ _ zb)
 ·have hne:gs≠[]:=fun z=>by rw [z] at hg;cases hg
  obtain ⟨bs,ga,g',e1,e2,e3,e4⟩:=z1S hG1 hne
  rw [hg] at e2
  cases e2
  subst e1
  have hne2:¬((bs++[ga]).map V.ref=[]):=by simp
  rw [kh hne2]
  have hpop:((bs++[ga]).map V.ref).getLast?=some (V.ref ga):=by rw [kL];exact kK
  refine iteF ⟨_,rfl,.inl ⟨rfl,_,SqL.of hsh1⟩,sh,_,_,rfl,rfl,hsh1,zX hpop,?_⟩
  have kU:=qr.upd (o:=.lst (((bs++[ga]).map V.ref).dropLast)) hsh1 rfl
  have hdl:((bs++[ga]).map V.ref).dropLast=bs.map V.ref:=by rw [kL,show ([ga]:List Addr).map V.ref=[V.ref ga] from rfl,kJ]
  have e4':=kU _ _ e4 rfl
  have e3':=e3.keep kU
  have hst1:upd H1 sh (.lst (((bs++[ga]).map V.ref).dropLast)) sa=some (.lst m.st):=by rw [zf n1.symm];exact A1.st
  have hwd2:upd H1 sh (.lst (((bs++[ga]).map V.ref).dropLast)) wd=some (.dK kvs):=by rw [zf (zC hwd1 hsh1 nofun)];exact hwd1
  have k1:qW H (upd H1 sh (.lst (((bs++[ga]).map V.ref).dropLast))) sh:=fun b o e h=>by rw [zf h];exact s1 _ _ e
  have hsh2:upd H1 sh (.lst (((bs++[ga]).map V.ref).dropLast)) sh=some (.lst (bs.map V.ref)):=by rw [zb,hdl]
  generalize upd H1 sh (.lst (((bs++[ga]).map V.ref).dropLast))=H2 at *
  refine ⟨ga,_,rfl,SqT.of e4',rfl,_,_,rfl,_,_,rfl,rfl,?_⟩
  refine ⟨_,rfl,_,rfl,_,rfl,sa,_,rfl,SqL.of hst1,fun p1 hp1=>?_⟩
  have u1:=zh hp1 (.lst (cutV m.st none (some g.2)))
  refine ⟨_,rfl,by show 1≤sizeLine;decide,fun p2 hp2=>?_⟩
  have u2:=zh hp2 (.lst [.str k])
  have b1:=jT m.st none (some g.2)
  refine ⟨p1,p2,_,_,rfl,rfl,u2 _ _ zb,zb,by show _+1≤_;rw [sizeLine_eq];lia,fun p3 hp3=>?_⟩
  have u3:=zh hp3 (.lst (cutV m.st none (some g.2)++[.str k]))
  have u0:=u1.trans (u2.trans u3)
  have hv:valV kvs (Sum.inl g.1:Key)=some (.int (j:Int)):=by rw [hL g.1,hj];rfl
  have hwd3:=u0 _ _ hwd2
  have hget:=DGet.k (k:=Sum.inl g.1) hwd3
  rw [hv] at hget
  refine ⟨_,rfl,_,rfl,wd,_,rfl,hget,?_⟩
  have hn3:H p3=none:=by
   cases e:H p3 with
   | none=>rfl
   | some o=>
    by_cases z:p3=sh
    ·subst z
     have:=(u1.trans u2) _ _ hsh2
     rw [hp3] at this
     cases this
    ·have:=(u1.trans u2) _ _ (k1 _ _ e z)
     rw [hp3] at this
     cases this
  exact q p3 bs _ _ _ (fun b o e h=>u0 _ _ (k1 b o e h)) zb hn3 (u0 _ _ hsh2) (e3'.keep (qr.of u0))
end
end My
local macro_rules | `(tactic| trivial)=>`(tactic| (dsimp only;decide+kernel))
local macro_rules | `(tactic| trivial)=>`(tactic| decide+kernel)
namespace My
open PySem PySem.Spec PyProof.Rows L2
variable {P:Program} {w:World} {K:ky} {mg:Str→Option Value} {base:Heap}
def NF (res:Res):Prop:=res=.next∨∃k,res=.fault k
noncomputable def z0n:List Str:=["load","quick","store","clear"]
noncomputable def z1e:List Str:=["neg","not","add","sub","mul","div","rest","less","same"]
noncomputable def z5c:List Str:=["push","copy","swap","drop","tell","raise"]
structure QX (op:Str) (res:Res):Prop where
 go:res=.go→op∈jumping
 fault:∀k,res=.fault k→op∉jumping
 value:∀v,res=.value v→op="return"
theorem z6i {r:Row} {d:Int} {m':Mst} {res:Res} (h:z8R r d m' res):QX r.op res:=by
 have all:∀o∈jumping,inT o faulting=false:=by trivial
 cases res with
 | next=>exact ⟨nofun,nofun,nofun⟩
 | go=>exact ⟨fun _=>qT.mp h.1,nofun,nofun⟩
 | fault k=>exact ⟨nofun,fun _ _ z=>(by have h1:=h.1;rw [all _ z] at h1;cases h1),nofun⟩
 | value v=>exact ⟨nofun,nofun,fun _ _=>h.1⟩
theorem QX.nf {op:Str} {res:Res} (h:QX op res) (h1:op∉jumping) (h2:op≠"return"):NF res:=by
 cases res with
 | next=>exact .inl rfl
 | go=>exact absurd (h.go rfl) h1
 | fault k=>exact .inr ⟨k,rfl⟩
 | value v=>exact absurd (h.value v rfl) h2
theorem QX.jump {op:Str} {res:Res} (h:QX op res) (h1:op∈jumping):res=.go∨res=.next:=by
 cases res with
 | next=>exact .inr rfl
 | go=>exact .inl rfl
 | fault k=>exact absurd h1 (h.fault k rfl)
 | value v=>
  have e:=h.value v rfl
  subst e
  exact absurd h1 (by trivial)
theorem z4x {op s:Str} (h:qa op=some s) (hs:op∉jD):op∈jumping∨op∈z0n∨op∈z1e∨op="return"∨op∈z5c:=by
 have all:∀o∈(["push","load","quick","store","clear","copy","swap","jump","iftrue","iffalse","ortrue","orfalse","try","label","add","sub","mul","div","rest","less","same","neg","not","drop","tell","return","raise","endtry"]:List Str),o∈jD∨o∈jumping∨o∈z0n∨o∈z1e∨o="return"∨o∈z5c:=by trivial
 exact (all op (z3g h)).resolve_left hs
theorem z89 {op:Str} (h:op∈z1e):op∈jo∨op∈jK:=by
 have all:∀o∈z1e,o∈jo∨o∈jK:=by trivial
 exact all op h
end My
local macro_rules | `(tactic| trivial)=>`(tactic| (dsimp only;decide+kernel))
local macro_rules | `(tactic| trivial)=>`(tactic| decide+kernel)
namespace My
open PySem PySem.Spec PyProof.Rows L2
variable {P:Program} {w:World} {K:ky} {mg:Str→Option Value} {base:Heap}
structure LwAt (H0 H:Hp) (wd nd sa sh oa:Addr) (rs:List Row) (m:Mst) (gs:List Gd):Prop where
 same:Same H0 H
 f1:H0 wd=none
 f2:H0 nd=none
 f3:H0 sa=none
 f4:H0 sh=none
 f5:H0 oa=none
 wh:∃kvs,H wd=some (.dK kvs)∧jI kvs rs
 ma:MA H sa nd oa m
 gd:∃gas:List Addr,H sh=some (.lst (gas.map V.ref))∧GsIn H gas gs
 n1:sh≠sa
 n2:sh≠oa
 n3:wd≠nd
section
variable {H0 H H':Hp} {wd nd sa sh oa:Addr} {rs:List Row} {m m':Mst} {gs gs':List Gd}
theorem LwAt.more (R:LwAt H0 H wd nd sa sh oa rs m gs) (s:Same H H'):LwAt H0 H' wd nd sa sh oa rs m gs:=by
 obtain ⟨kvs,w1,w2⟩:=R.wh
 obtain ⟨gas,g1,g2⟩:=R.gd
 exact ⟨R.same.trans s,R.f1,R.f2,R.f3,R.f4,R.f5,⟨kvs,s _ _ w1,w2⟩,R.ma.same s,⟨gas,s _ _ g1,g2.same s⟩,R.n1,R.n2,R.n3⟩
theorem LwAt.deed (R:LwAt H0 H wd nd sa sh oa rs m gs) (A:MA H' sa nd oa m') (r:zF H H' sa nd oa):LwAt H0 H' wd nd sa sh oa rs m' gs:=by
 obtain ⟨kvs,w1,w2⟩:=R.wh
 obtain ⟨gas,g1,g2⟩:=R.gd
 refine ⟨fun b o e=>r _ _ (R.same _ _ e) (ze e R.f3) (ze e R.f2) (ze e R.f5),R.f1,R.f2,R.f3,R.f4,R.f5,⟨kvs,r _ _ w1 (zC w1 R.ma.st nofun) R.n3 (zC w1 R.ma.sd nofun),w2⟩,A,⟨gas,r _ _ g1 R.n1 (zC g1 R.ma.kn nofun) R.n2,g2.keep ?_⟩,R.n1,R.n2,R.n3⟩
 exact fun b o e t=>r _ _ e (fun z=>by rw [z,R.ma.st] at e;cases e;cases t) (fun z=>by rw [z,R.ma.kn] at e;cases e;cases t) (fun z=>by rw [z,R.ma.sd] at e;cases e;cases t)
theorem LwAt.cast (R:LwAt H0 H wd nd sa sh oa rs m gs) {sa':Addr} {xs:List V} {gas':List Addr} (k:qW H H' sh) (h1:H' sa'=some (.lst xs)) (h2:H sa'=none) (h3:H' sh=some (.lst (gas'.map V.ref))) (h4:GsIn H' gas' gs'):LwAt H0 H' wd nd sa' sh oa rs { m with st:=xs } gs':=by
 obtain ⟨kvs,w1,w2⟩:=R.wh
 obtain ⟨gas,g1,g2⟩:=R.gd
 have f:H0 sa'=none:=by
  cases e:H0 sa' with
  | none=>rfl
  | some o=>rw [R.same _ _ e] at h2;cases h2
 exact ⟨fun b o e=>k _ _ (R.same _ _ e) (ze e R.f4),R.f1,R.f2,f,R.f4,R.f5,⟨kvs,k _ _ w1 (zC w1 g1 nofun),w2⟩,⟨h1,k _ _ R.ma.kn (zC R.ma.kn g1 nofun),k _ _ R.ma.sd R.n2.symm,(ze R.ma.sd h2).symm⟩,⟨gas',h3,h4⟩,ze g1 h2,R.n2,R.n3⟩
end
inductive Nxt (rs:List Row) (gs:List Gd) (res:Res) (m':Mst) (arg:V) (p:Nat):Mst→List Gd→Nat→Prop where
 | next:res=.next→Nxt rs gs res m' arg p m' gs (p+1)
 | go {mk:Int} {j:Nat}:res=.go→arg=.int mk→zw rs mk=some j→Nxt rs gs res m' arg p m' gs j
 | cast {k:Str} {g:Gd} {j:Nat}:res=.fault k→gs.getLast?=some g→zw rs g.1=some j→Nxt rs gs res m' arg p { m' with st:=cutV m'.st none (some g.2)++[.str k] } gs.dropLast j
inductive FinM (gs:List Gd) (res:Res) (line:Int):List V→Prop where
 | fault {k:Str}:res=.fault k→gs=[]→FinM gs res line [.str "fault",.str k,.int line]
 | value {v:V}:res=.value v→FinM gs res line [.str "value",v]
section
theorem z2G {D:Ends} {H0 H:Hp} {l wd nd sa sh oa:Addr} {rs:List Row} {m':Mst} {gs:List Gd} {res:Res} {arg:V} {p:Nat} {used line:Int} {x1 x2 x5 x11 x12 x15 x16 x17:Option V} (R:LwAt H0 H wd nd sa sh oa rs m' gs) (hl:m'.st.length≤1000) (hres:NF res)
  (thr:∀k g,res=.fault k→gs.getLast?=some g→∃j,zw rs g.1=some j)
  (q1:∀sa' (at':Nat) kind' x16' x17' m'' gs'' H',LwAt H0 H' wd nd sa' sh oa rs m'' gs''→Nxt rs gs res m' arg p m'' gs'' at'→D.nx [some (.ref l),x1,x2,some (.ref wd),some (.int (at':Nat)),x5,some (.ref nd),some (.ref sa'),some (.ref sh),some (.ref oa),some (.int used),x11,x12,some (.int line),some kind',x15,x16',x17'] H')
  (q2:∀t ea e H',Same H0 H'→H' t=some (.tup [.ref ea,.ref oa,.int used])→H' ea=some (.tup e)→H' oa=some (.lst m'.sd)→FinM gs res line e→D.rt (.ref t) H'):
  TB8 D [some (.ref l),x1,x2,some (.ref wd),some (.int ((p+1:Nat):Int)),x5,some (.ref nd),some (.ref sa),some (.ref sh),some (.ref oa),some (.int used),x11,x12,some (.int line),some (kv res),x15,x16,x17] H:=by
 obtain ⟨kvs,w1,w2⟩:=R.wh
 obtain ⟨gas,g1,g2⟩:=R.gd
 refine ⟨l,wd,nd,sa,sh,oa,_,used,line,_,x1,x2,x5,x11,x12,x15,x16,x17,rs,kvs,m',gas,gs,rfl,w1,w2,R.ma,g1,g2,R.n1,R.n2,hl,?_⟩
 rcases hres with rfl | ⟨k,rfl⟩
 ·exact .inl ⟨rfl,q1 sa (p+1) _ _ _ m' gs H R (.next rfl)⟩
 ·refine .inr ⟨k,rfl,?_⟩
  cases hg:gs.getLast? with
  | none=>
   have e0:gs=[]:=List.getLast?_eq_none_iff.mp hg
   exact .inl ⟨e0,fun t ea H' s h1 h2=>q2 t ea _ H' (R.same.trans s) h1 h2 (s _ _ R.ma.sd) (.fault rfl e0)⟩
  | some g=>
   obtain ⟨j,hj⟩:=thr k g rfl hg
   exact .inr ⟨g,j,rfl,hj,fun sa' gas' x16' x17' H' k1 h1 h2 h3 h4=>q1 sa' j _ x16' x17' _ gs.dropLast H' (R.cast k1 h1 h2 h3 h4) (.cast rfl hg hj)⟩
def TB7:TS:=fun D σ H=>∃(l wd nd sa sh oa:Addr) (p:Nat) (used line:Int) (op:Str) (arg:V) (x1 x2 x5 x16 x17:Option V) (H0:Hp) (rs:List Row) (m m':Mst) (res:Res) (gs:List Gd),
 σ=[some (.ref l),x1,x2,some (.ref wd),some (.int ((p+1:Nat):Int)),x5,some (.ref nd),some (.ref sa),some (.ref sh),some (.ref oa),some (.int used),some (.str op),some arg,some (.int line),some .non,some (.int (p:Nat)),x16,x17]∧
 LwAt H0 H wd nd sa sh oa rs m gs∧okVs m.st∧rowM op arg m=some (res,m')∧m'.st.length≤1000∧(op∈jumping∨op∈z0n∨op∈z1e∨op="return"∨op∈z5c)∧(op∈jumping→∃mk j,arg=.int mk∧zw rs mk=some j)∧(op∈z0n→∃nm,arg=.str nm)∧QX op res∧
 (∀k g,res=.fault k→gs.getLast?=some g→∃j,zw rs g.1=some j)∧
 (∀sa' (at':Nat) kind' x16' x17' m'' gs'' H',LwAt H0 H' wd nd sa' sh oa rs m'' gs''→Nxt rs gs res m' arg p m'' gs'' at'→D.nx [some (.ref l),x1,x2,some (.ref wd),some (.int (at':Nat)),x5,some (.ref nd),some (.ref sa'),some (.ref sh),some (.ref oa),some (.int used),some (.str op),some arg,some (.int line),some kind',some (.int (p:Nat)),x16',x17'] H')∧
 (∀t ea e H',Same H0 H'→H' t=some (.tup [.ref ea,.ref oa,.int used])→H' ea=some (.tup e)→H' oa=some (.lst m'.sd)→FinM gs res line e→D.rt (.ref t) H')
theorem tb7 {f:Addr} {cdv:Value} {A:Around} {outer:List Env} {s:Shared} {H0:Hp} {E:XK} (hr:Room 4 (A.deeper (envOfC "_law_run" (zd (top 123)) s.heap.objs.size f cdv)))
  (F1:FN P w K mg base 3 "_law_goes" ["_law_op","_law_arg","_law_at","_law_stack","_law_where"] spGo) (F2:FN P w K mg base 1 "_law_named" ["_law_op","_law_arg","_law_stack","_law_names"] spNm) (F3:FN P w K mg base 3 "_law_made" ["_law_op","_law_stack"] spMd) (F4:FN P w K mg base 1 "_law_else" ["_law_op","_law_arg","_law_stack","_law_out"] spEl):
  PSs (cxOf CX0 P w K mg base N123 "_law_run" (zd (top 123)) f cdv A outer s H0 E).nox [stw 7,stw 8] TB7:=by
 have hr1:=hr.mono (show 1≤4 by decide)
 have hr3:=hr.mono (show 3≤4 by decide)
 refine PSs.imp (z8 (zD (zl qx (pv 11) (zE (z6 zi (z6 zi (z6 zi (z6 zi (z6 zi z7)))))) rfl)
   (zc (zA (i:=4) jf.nd rfl (Or.inl rfl) (zp F1 hr3 rfl (z6 (pv 11) (z6 (pv 12) (z6 (pv 15) (z6 (pv 7) (z6 (pv 3) z7))))))))
  (zc (zD (zl qx (pv 11) (zE (z6 zi (z6 zi (z6 zi (z6 zi z7))))) rfl)
   (zc (zA (i:=14) jf.nd rfl (Or.inl rfl) (zp F2 hr1 rfl (z6 (pv 11) (z6 (pv 12) (z6 (pv 7) (z6 (pv 6) z7)))))))
  (zc (zD (zl qx (pv 11) (zE (z6 zi (z6 zi (z6 zi (z6 zi (z6 zi (z6 zi (z6 zi (z6 zi (z6 zi z7)))))))))) rfl)
   (zc (zA (i:=14) jf.nd rfl (Or.inl rfl) (zp F3 hr3 rfl (z6 (pv 11) (z6 (pv 7) z7)))))
  (zc (zD (zl zT (pv 11) zi (zn _))
   (zc (zm (zE (z6 (zE (z6 zi (z6 (qF (pv 7)) z7))) (z6 (pv 9) (z6 (pv 10) z7))))))
   (zc (zA (i:=14) jf.nd rfl (Or.inl rfl) (zp F4 hr1 rfl (z6 (pv 11) (z6 (pv 12) (z6 (pv 7) (z6 (pv 9) z7)))))))))))))) (tb8 hr)) ?_
 rintro D σ H ⟨l,wd,nd,sa,sh,oa,p,used,line,op,arg,x1,x2,x5,x16,x17,H0,rs,m,m',res,gs,rfl,R,hok,hg,hl,hcls,hj,hnm,hrc,thr,q1,q2⟩
 have no:∀a b:Str,a≠b→decide (V.str a=V.str b)=false:=fun a b h=>by rw [eqS];exact kh h
 have notin:∀{x:Str} {l:List Str},x∉l→inT x l=false:=fun {x l} h=>by
  cases e:inT x l with
  | false=>rfl
  | true=>exact absurd (qT.mp e) h
 refine ⟨_,rfl,by show 5≤sizeLine;decide,fun y1 hy1=>⟨y1,_,rfl,.inr (SqT.of zb),rfl,rfl,inT op jumping,rfl,?_⟩⟩
 have R1:=R.more (zh hy1 (.tup [.str "jump",.str "iftrue",.str "iffalse",.str "ortrue",.str "orfalse"]))
 generalize upd H y1 (.tup [.str "jump",.str "iftrue",.str "iffalse",.str "ortrue",.str "orfalse"])=H1 at R1 ⊢
 clear R hy1
 by_cases c1:op∈jumping
 ·rw [qT.mpr c1]
  obtain ⟨mk,j,rfl,hlab⟩:=hj c1
  obtain ⟨kvs,w1,w2⟩:=R1.wh
  refine iteT ⟨_,rfl,_,rfl,_,rfl,_,rfl,_,rfl,op,mk,p,j,sa,nd,oa,wd,kvs,rs,m,res,m',rfl,c1,R1.ma,hok,w1,w2,hlab,hg,fun H' A r=>?_⟩
  have R2:=R1.deed A r
  obtain ⟨kvs2,w3,w4⟩:=R2.wh
  obtain ⟨gas,g1,g2⟩:=R2.gd
  refine ⟨l,wd,nd,sa,sh,oa,_,used,line,_,x1,x2,x5,_,_,_,x16,x17,rs,kvs2,m',gas,gs,rfl,w3,w4,A,g1,g2,R2.n1,R2.n2,hl,.inl ⟨rfl,?_⟩⟩
  rcases hrc.jump c1 with rfl | rfl
  ·exact q1 sa j _ _ _ m' gs H' R2 (.go rfl rfl hlab)
  ·exact q1 sa (p+1) _ _ _ m' gs H' R2 (.next rfl)
 rw [notin c1]
 refine iteF ⟨_,rfl,by show 4≤sizeLine;decide,fun y1 hy1=>⟨y1,_,rfl,.inr (SqT.of zb),rfl,rfl,inT op z0n,rfl,?_⟩⟩
 have R2:=R1.more (zh hy1 (.tup [.str "load",.str "quick",.str "store",.str "clear"]))
 generalize upd H1 y1 (.tup [.str "load",.str "quick",.str "store",.str "clear"])=H2 at R2 ⊢
 clear R1 hy1
 by_cases c2:op∈z0n
 ·rw [qT.mpr c2]
  obtain ⟨nm,rfl⟩:=hnm c2
  exact iteT ⟨_,rfl,_,rfl,_,rfl,_,rfl,op,nm,sa,nd,oa,m,res,m',rfl,c2,R2.ma,hg,fun H' A r=>z2G (R2.deed A r) hl (hrc.nf c1 (fun z=>by subst z;revert c2;decide+kernel)) thr q1 q2⟩
 rw [notin c2]
 refine iteF ⟨_,rfl,by show 9≤sizeLine;decide,fun y1 hy1=>⟨y1,_,rfl,.inr (SqT.of zb),rfl,rfl,inT op z1e,rfl,?_⟩⟩
 have R3:=R2.more (zh hy1 (.tup [.str "neg",.str "not",.str "add",.str "sub",.str "mul",.str "div",.str "rest",.str "less",.str "same"]))
 generalize upd H2 y1 (.tup [.str "neg",.str "not",.str "add",.str "sub",.str "mul",.str "div",.str "rest",.str "less",.str "same"])=H3 at R3 ⊢
 clear R2 hy1
 by_cases c3:op∈z1e
 ·rw [qT.mpr c3]
  exact iteT ⟨_,rfl,_,rfl,op,arg,sa,nd,oa,m,res,m',rfl,z89 c3,R3.ma,hok,hg,fun H' A r=>z2G (R3.deed A r) hl (hrc.nf c1 (fun z=>by subst z;revert c3;decide+kernel)) thr q1 q2⟩
 rw [notin c3]
 refine iteF ⟨_,rfl,rfl,_,rfl,?_⟩
 by_cases c4:op="return"
 ·subst c4
  rw [show decide (V.str "return"=V.str "return")=true from ki rfl]
  have e0:rowM "return" arg m=jS "return" arg m:=by (unfold rowM;repeat (first | rw [kC (by trivial)] | rw [kz (by trivial)]))
  rw [e0] at hg
  unfold jS at hg
  cases hv:m.st.getLast? with
  | none=>rw [hv] at hg;cases hg
  | some v=>
   rw [hv] at hg
   cases hg
   refine iteT ⟨_,rfl,.inl ⟨rfl,_,SqL.of R3.ma.st⟩,sa,_,_,rfl,rfl,R3.ma.st,zX hv,by show 2≤sizeLine;decide,fun ea hea=>⟨_,rfl,_,rfl,by show 3≤sizeLine;decide,fun t ht=>?_⟩⟩
   have R4:=R3.deed (R3.ma.setSt m.st.dropLast) zF.a
   have s2:=zh hea (.tup [.str "value",v])
   have s3:=zh ht (.tup [.ref ea,.ref oa,.int used])
   have R5:=R4.more (s2.trans s3)
   exact q2 t ea _ _ R5.same zb (s3 _ _ zb) R5.ma.sd (.value rfl)
 rw [no _ _ c4]
 have c5:op∈z5c:=by
  rcases hcls with h | h | h | h | h
  ·exact absurd h c1
  ·exact absurd h c2
  ·exact absurd h c3
  ·exact absurd h c4
  ·exact h
 exact iteF ⟨_,rfl,_,rfl,_,rfl,_,rfl,op,arg,sa,nd,oa,m,res,m',rfl,c5,R3.ma,hok,hg,fun H' A r=>z2G (R3.deed A r) hl (hrc.nf c1 c4) thr q1 q2⟩
end
theorem LwAt.pass {H0 H H':Hp} {wd nd sa sh oa:Addr} {rs:List Row} {m:Mst} {gs gs':List Gd} {gas':List Addr} (R:LwAt H0 H wd nd sa sh oa rs m gs) (k:qW H H' sh) (h3:H' sh=some (.lst (gas'.map V.ref))) (h4:GsIn H' gas' gs'):LwAt H0 H' wd nd sa sh oa rs m gs':=by
 obtain ⟨kvs,w1,w2⟩:=R.wh
 obtain ⟨gas,g1,g2⟩:=R.gd
 exact ⟨fun b o e=>k _ _ (R.same _ _ e) (ze e R.f4),R.f1,R.f2,R.f3,R.f4,R.f5,⟨kvs,k _ _ w1 (zC w1 g1 nofun),w2⟩,⟨k _ _ R.ma.st R.n1.symm,k _ _ R.ma.kn (zC R.ma.kn g1 nofun),k _ _ R.ma.sd R.n2.symm,R.ma.ne⟩,⟨gas',h3,h4⟩,R.n1,R.n2,R.n3⟩
theorem z27 {rs:List Row} {m m1:Mst} {gs gs1:List Gd} {pas pas1:List Nat} {p:Nat} {e1:List V} {here1:Option Nat} {r:Row} (hr:rs[p]?=some r) (h:Qh rs m gs pas p=some (m1,gs1,pas1,e1,here1)):∃res m',rowM r.op r.arg m=some (res,m')∧
  (∀k g,res=.fault k→gs.getLast?=some g→∃j,zw rs g.1=some j)∧
  (∀m'' gs'' at',Nxt rs gs res m' r.arg p m'' gs'' at'→m1=m''∧pas1=pas++[p]∧e1=onE∧∃p',here1=some p'∧qN rs m''.st.length 200 at' gs''=some (p',gs1))∧
  (∀e,FinM gs res r.line e→m1.sd=m'.sd∧e1=e∧here1=none∧pas1=pas++[p]):=by
 unfold Qh at h
 rw [hr] at h
 dsimp only at h
 by_cases hz:qC pas.length=true
 case neg=>rw [kz hz] at h;cases h
 rw [kC hz] at h
 cases hrow:rowM r.op r.arg m with
 | none=>rw [hrow] at h;cases h
 | some rm=>
  obtain ⟨res,m'⟩:=rm
  rw [hrow] at h
  refine ⟨res,m',rfl,?_⟩
  cases res with
  | next=>
   dsimp only at h
   cases hc:qN rs m'.st.length 200 (p+1) gs with
   | none=>rw [hc] at h;cases h
   | some pg=>
    obtain ⟨p',gs'⟩:=pg
    rw [hc] at h
    cases h
    refine ⟨(fun k g z=>by cases z),fun m'' gs'' at' hn=>?_,fun e hf=>?_⟩
    ·cases hn with
     | next=>exact ⟨rfl,rfl,rfl,p',rfl,hc⟩
     | go z=>cases z
     | cast z=>cases z
    ·cases hf with
     | fault z=>cases z
     | value z=>cases z
  | go=>
   dsimp only at h
   cases ha:r.arg with
   | int mk=>
    rw [ha] at h
    dsimp only at h
    cases hl:zw rs mk with
    | none=>rw [hl] at h;cases h
    | some j=>
     rw [hl] at h
     dsimp only at h
     cases hc:qN rs m'.st.length 200 j gs with
     | none=>rw [hc] at h;cases h
     | some pg=>
      obtain ⟨p',gs'⟩:=pg
      rw [hc] at h
      cases h
      refine ⟨(fun k g z=>by cases z),fun m'' gs'' at' hn=>?_,fun e hf=>?_⟩
      ·cases hn with
       | next z=>cases z
       | go _ z1 z2=>
        cases z1
        rw [hl] at z2
        cases z2
        exact ⟨rfl,rfl,rfl,p',rfl,hc⟩
       | cast z=>cases z
      ·cases hf with
       | fault z=>cases z
       | value z=>cases z
   | _=>rw [ha] at h;cases h
  | fault k=>
   dsimp only at h
   cases hg:gs.getLast? with
   | none=>
    unfold z07 at h
    rw [hg] at h
    cases h
    refine ⟨(fun _ g _ z=>by cases z),fun m'' gs'' at' hn=>?_,fun e hf=>?_⟩
    ·cases hn with
     | next z=>cases z
     | go z=>cases z
     | cast z z1=>rw [hg] at z1;cases z1
    ·cases hf with
     | fault z=>cases z;exact ⟨rfl,rfl,rfl,rfl⟩
     | value z=>cases z
   | some g=>
    unfold z07 at h
    rw [hg] at h
    dsimp only at h
    by_cases hy:qC m'.st.length=true
    case neg=>rw [kz hy] at h;cases h
    rw [kC hy] at h
    cases hl:zw rs g.1 with
    | none=>rw [hl] at h;cases h
    | some j=>
     rw [hl] at h
     dsimp only at h
     cases hc:qN rs (cutV m'.st none (some g.2)++[V.str k]).length 200 j gs.dropLast with
     | none=>rw [hc] at h;cases h
     | some pg=>
      obtain ⟨p',gs'⟩:=pg
      rw [hc] at h
      cases h
      refine ⟨fun k' g' _ z=>?_,fun m'' gs'' at' hn=>?_,fun e hf=>?_⟩
      ·cases z
       exact ⟨j,hl⟩
      ·cases hn with
       | next z=>cases z
       | go z=>cases z
       | cast z z1 z2=>
        cases z
        rw [hg] at z1
        cases z1
        rw [hl] at z2
        cases z2
        exact ⟨rfl,rfl,rfl,p',rfl,hc⟩
      ·cases hf with
       | fault _ z=>rw [z] at hg;cases hg
       | value z=>cases z
  | value v=>
   cases h
   refine ⟨(fun k g z=>by cases z),fun m'' gs'' at' hn=>?_,fun e hf=>?_⟩
   ·cases hn with
    | next z=>cases z
    | go z=>cases z
    | cast z=>cases z
   ·cases hf with
    | fault z=>cases z
    | value z=>cases z;exact ⟨rfl,rfl,rfl,rfl⟩
theorem z6h {rs:List Row} {S:Fnd} (T:jN rs S) (hc:Code rs) (hv:∀r∈rs,r.op="push"→okV r.arg=true) {kvs:List (Key × V)} (hk:∀q∈kvs,okV q.2=true) (hk8:kvs.length≤8):
  ∃p0 g0,qN rs 0 200 0 []=some (p0,g0)∧Q9 rs S 0 ⟨⟨[],kvs,[]⟩,g0,[],onE,some p0⟩∧∀s,s≤400→runM rs kvs s=some ((seqM rs ⟨⟨[],kvs,[]⟩,g0,[],onE,some p0⟩ s).e,(seqM rs ⟨⟨[],kvs,[]⟩,g0,[],onE,some p0⟩ s).m.sd,(seqM rs ⟨⟨[],kvs,[]⟩,g0,[],onE,some p0⟩ s).pas.length):=by
 obtain ⟨p0,g0,e0,st0⟩:=Zt T hc (d:=0) 200 0 [] (by have:=hc.hi;lia) T.zero .nil
 have ok0:OkM ⟨[],kvs,[]⟩ 0:=⟨okVs.nil,hk,okVs.nil,ke _,by show kvs.length≤_;lia,ke _⟩
 have h0:Q9 rs S 0 ⟨⟨[],kvs,[]⟩,g0,[],onE,some p0⟩:=⟨p0,rfl,rfl,rfl,ok0,st0⟩
 obtain ⟨fin,hf,_⟩:=z0a T (by have:=hc.hi;lia)
 refine ⟨p0,g0,e0,h0,fun s hs=>?_⟩
 generalize hs0:(⟨⟨[],kvs,[]⟩,g0,[],onE,some p0⟩:S5)=s0 at h0
 unfold runM
 rw [hf]
 dsimp only
 rw [e0]
 dsimp only
 have:=z1P T hc hv h0 (steps:=s) (by lia) 500 0 (by lia) (by lia)
 rw [show seqM rs s0 0=s0 from rfl,←hs0] at this
 have this:Z5 rs s 500 ⟨[],kvs,[]⟩ g0 [] [.str "on"] (some p0)=_:=this
 rw [this,←hs0]
theorem z4i {rs:List Row} {S:Fnd} {s0:S5} (T:jN rs S) (hc:Code rs) (hv:∀r∈rs,r.op="push"→okV r.arg=true) {i p:Nat} (hi:i≤900) (hG:Q9 rs S i (seqM rs s0 i)) (hp:(seqM rs s0 i).here=some p):
  ∃r res m',rs[p]?=some r∧r.op∉jD∧okVs (seqM rs s0 i).m.st∧rowM r.op r.arg (seqM rs s0 i).m=some (res,m')∧m'.st.length≤1000∧QX r.op res∧(∀k g,res=.fault k→(seqM rs s0 i).gs.getLast?=some g→∃j,zw rs g.1=some j)∧
  (∀m'' gs'' at',Nxt rs (seqM rs s0 i).gs res m' r.arg p m'' gs'' at'→(seqM rs s0 (i+1)).m=m''∧Q9 rs S (i+1) (seqM rs s0 (i+1))∧∃p',(seqM rs s0 (i+1)).here=some p'∧qN rs m''.st.length 200 at' gs''=some (p',(seqM rs s0 (i+1)).gs))∧
  (∀e,FinM (seqM rs s0 i).gs res r.line e→(seqM rs s0 (i+1)).m.sd=m'.sd∧(seqM rs s0 (i+1)).e=e∧(seqM rs s0 (i+1)).here=none∧(seqM rs s0 (i+1)).pas.length=i+1):=by
 obtain ⟨⟨p2,a2,g⟩,_,hlen,hor⟩:=z08 T hc hv hi hG
 rw [hp] at a2
 cases a2
 obtain ⟨p3,b1,b2,b3,b4⟩:=hG
 rw [hp] at b1
 cases b1
 obtain ⟨hm,hS,hgk,r,hr,hs⟩:=b4
 have hmem:=kI hr
 obtain ⟨w1,w2,w3⟩:=jY (T.here p r _ hr hS).1
 obtain ⟨res1,m1,f1,f2,f3,f4⟩:=z5F hm hi (hc.ok r hmem) (hv r hmem) (by lia) hs
 obtain ⟨res,m',e1,e2,e3,e4⟩:=z27 hr g
 rw [f1] at e1
 cases e1
 have key:seqM rs s0 (i+1)=stp rs (seqM rs s0 i):=rfl
 rw [key]
 refine ⟨r,res1,m1,hr,hs,hm.st,f1,by have:=f2.lst;lia,z6i f4,e2,fun m'' gs'' at' hn=>?_,fun e hf=>?_⟩
 ·obtain ⟨c1,c2,c3,p',c4,c5⟩:=e3 m'' gs'' at' hn
  refine ⟨c1,?_,p',c4,c5⟩
  rcases hor with h | h
  ·exact h
  ·have:=h.here
   rw [c4] at this
   cases this
 ·obtain ⟨c1,c2,c3,c4⟩:=e4 e hf
  exact ⟨c1,c2,c3,hlen⟩
theorem z86 {r:Row} (h:jV r) (ho:r.op∈z0n):∃nm,r.arg=.str nm:=by
 obtain ⟨s,hs,hf,_⟩:=h.parts
 have all:∀o∈z0n,qa o=some "name":=by trivial
 rw [all _ ho] at hs
 cases hs
 exact ZI hf
section
def z5y:Sp:=fun vs H Q _=>∃(l d:Addr) (as:List Addr) (rs:List Row) (S:Fnd) (kvs:List (Key × V)) (steps:Nat),vs=[.ref l,.ref d,.int (steps:Nat)]∧H l=some (.lst (as.map V.ref))∧zS H as rs∧Code rs∧jN rs S∧(∀r∈rs,r.op="push"→okV r.arg=true)∧H d=some (.dK kvs)∧(∀q∈kvs,okV q.2=true)∧kvs.length≤8∧steps≤400∧
 ∀t ea tl e sd (n:Nat) H',Same H H'→H' t=some (.tup [.ref ea,.ref tl,.int (n:Nat)])→H' ea=some (.tup e)→H' tl=some (.lst sd)→runM rs kvs steps=some (e,sd,n)→Q (.ref t) H'
def LW (H:Hp) (rs:List Row) (S:Fnd) (s0:S5) (steps:Nat) (l d wd nd sh oa:Addr) (k:Nat) (σ:L2.St) (H2:Hp):Prop:=∃(i a:Nat) (ga:List Gd) (sa:Addr) (x5 x11 x12 x13 x14 x15 x16 x17:Option V) (p:Nat),k=steps - i∧i≤steps∧σ=[some (.ref l),some (.ref d),some (.int (steps:Nat)),some (.ref wd),some (.int (a:Nat)),x5,some (.ref nd),some (.ref sa),some (.ref sh),some (.ref oa),some (.int (i:Nat)),x11,x12,x13,x14,x15,x16,x17]∧
   LwAt H H2 wd nd sa sh oa rs (seqM rs s0 i).m ga∧Q9 rs S i (seqM rs s0 i)∧(seqM rs s0 i).here=some p∧qN rs (seqM rs s0 i).m.st.length 200 a ga=some (p,(seqM rs s0 i).gs)
def LabW (H:Hp) (l d:Addr) (steps:Nat) (wd:Addr) (rs:List Row) (i:Nat) (σ:L2.St) (H2:Hp):Prop:=∃kvs' v4 v5,σ=[some (.ref l),some (.ref d),some (.int (steps:Nat)),some (.ref wd),v4,v5,none,none,none,none,none,none,none,none,none,none,none,none]∧Same H H2∧H2 wd=some (.dK kvs')∧kvs'.length≤i∧jI kvs' (rs.take i)
theorem z6V (D:zo K mg "_law_run" (top 123)) (G:Glo mg) (F0:FN P w K mg base 1 "_law_passed" ["_law_code_here","_law_at","_law_depth","_law_shields"] spPa) (F1:FN P w K mg base 3 "_law_goes" ["_law_op","_law_arg","_law_at","_law_stack","_law_where"] spGo) (F2:FN P w K mg base 1 "_law_named" ["_law_op","_law_arg","_law_stack","_law_names"] spNm) (F3:FN P w K mg base 3 "_law_made" ["_law_op","_law_stack"] spMd) (F4:FN P w K mg base 1 "_law_else" ["_law_op","_law_arg","_law_stack","_law_out"] spEl):
  FN P w K mg base 5 "_law_run" ["_law_code_here","_law_given_names","_law_steps"] z5y:=by
 refine FN.o D jf fun f cdv A outer s H vs Q E hr h=>?_
 obtain ⟨l,d,as,rs,S,kvs,steps,rfl,hl,hR,hc,T,hv,hd,hk,hk8,hst,q⟩:=h
 have hu:=Zq hr
 have hr1:=hr.mono (show 1≤4 by decide)
 refine ⟨_,z8 (zA (i:=3) jf.nd rfl (Or.inl rfl) Jz)
  (z8 (ZE PassesOwn.never rfl (z19 rfl G.enumerate (z6 (pv 0) z7)) (jg rfl (zt (zB (i:=4) jf.nd rfl (Or.inl rfl)) (zt (zB (i:=5) jf.nd rfl (Or.inl rfl)) qy)))
   (zc (zD (zl zT (zP qo (pv 5) zg (fun _ _=>rfl)) zi (zn _))
    (zc (QA hu (pv 3) (zP qo (pv 5) zg (fun _ _=>rfl)) (pv 4) rfl)) zu)))
  (z8 (j6 (zE (z6 (ji Z9 rfl G.dict ZW (z6 (pv 1) z7)) (z6 (qu z7) (z6 (qu z7) (z6 (qu z7) z7)))))
   (jg rfl (zt (zB (i:=6) jf.nd rfl (Or.inl rfl)) (zt (zB (i:=7) jf.nd rfl (Or.inl rfl)) (zt (zB (i:=8) jf.nd rfl (Or.inl rfl)) (zt (zB (i:=9) jf.nd rfl (Or.inl rfl)) qy))))))
  (z8 (zA (i:=4) jf.nd rfl (Or.inl rfl) zg)
  (z8 (zA (i:=10) jf.nd rfl (Or.inl rfl) zg)
  (zc (ZC PassesOwn.never (qK JC)
   (z8 (zA (i:=4) jf.nd rfl (Or.inl rfl) (zp F0 hr1 rfl (z6 (pv 0) (z6 (pv 4) (z6 (zy zQ rfl G.len qt (z6 (pv 7) z7)) (z6 (pv 8) z7))))))
   (z8 (zD (zl zT (pv 10) (pv 2) (zn _)) (zc (zm (zE (z6 (zE (z6 zi z7)) (z6 (pv 9) (z6 (pv 10) z7)))))) zu)
   (z8 (j6 (zP zL (pv 0) (pv 4) (fun _ _=>rfl)) (jg rfl (zt (zB (i:=11) jf.nd rfl (Or.inl rfl)) (zt (zB (i:=12) jf.nd rfl (Or.inl rfl)) (zt (zB (i:=13) jf.nd rfl (Or.inl rfl)) qy)))))
   (z8 (zA (i:=10) jf.nd rfl (Or.inl rfl) (zJ qV (pv 10) zg))
   (z8 (zA (i:=14) jf.nd rfl (Or.inl rfl) qc)
   (z8 (zA (i:=15) jf.nd rfl (Or.inl rfl) (pv 4))
   (z8 (zA (i:=4) jf.nd rfl (Or.inl rfl) (zJ qV (pv 4) zg))
   (tb7 hr F1 F2 F3 F4)))))))))))))),?_⟩
 try dsimp only [L2.cxOf,L2.Cx.nox]
 intro wd hwd
 have hml:(as.map V.ref).length=rs.length:=by rw [kj];exact hR.len
 have hlen:=hc.hi
 refine ⟨_,rfl,l,rfl,⟨_,(zh hwd _).seq (SqL.of hl)⟩,JS (K:=K) (a:=l) (xs:=as.map V.ref) (LabW H l d steps wd rs)
  ⟨[],none,none,rfl,zh hwd _,zb,ke _,fun m=>by rw [List.take_zero];rfl⟩ (fun i σ H2 _ zz=>by obtain ⟨_,_,_,_,s2,_⟩:=zz;exact SqL.of (s2 _ _ hl)) ?_ ?_⟩
 ·rintro i x σ H2 p hi ⟨kvs',v4,v5,rfl,s2,hD,hkl,hL⟩ hp
  obtain ⟨a,r,rfl,hr1',ha⟩:=(hR.same s2).get hi
  have hil:i < rs.length:=(kf.mp hr1').1
  have s3:=zh hp (.tup [.int i,.ref a])
  have ha':=s3 _ _ ha
  have hD':=s3 _ _ hD
  have s4:=s2.trans s3
  refine ⟨p,_,rfl,SqT.of zb,rfl,_,_,rfl,_,_,rfl,rfl,?_⟩
  generalize upd H2 p (.tup [.int i,.ref a])=H3 at *
  refine ⟨_,rfl,a,_,_,_,rfl,rfl,SqT.of ha',zq (j:=0) rfl,rfl,_,rfl,?_⟩
  refine ite2 (fun c=>?_) (fun c=>?_)
  ·have eop:r.op="label":=by
    have:=kE c
    injection this
   have hfit:=hc.fit i r hr1'
   unfold jG at hfit
   rw [kC eop] at hfit
   cases em:r.arg with
   | int m=>
    rw [em] at hfit
    have hfl:zw rs m=some i:=kE hfit
    have ha2:H3 a=some (.tup [.str r.op,.int m,.int r.line]):=by rw [ha'];unfold tupV;rw [em]
    have eP:labP m r=true:=by unfold labP;rw [eop,em];simp
    refine ⟨_,rfl,_,rfl,_,rfl,a,_,_,_,rfl,rfl,SqT.of ha2,zq (j:=1) rfl,wd,_,rfl,DPut.k (k:=Sum.inl m) hD' (qJ (by lia)),?_⟩
    refine ⟨putK kvs' (Sum.inl m) (.int i),_,_,rfl,fun b o e=>?_,zb,?_,fun m'=>?_⟩
    ·rw [zf (ze e hwd)]
     exact s4 b o e
    ·have:=qS kvs' (Sum.inl m:Key) (V.int i)
     lia
    ·rw [Qn,ZM hr1' m']
     by_cases e:m'=m
     ·subst e
      rw [kC rfl,eP,kC rfl,z6x hfl]
      rfl
     ·have:labP m' r=false:=by
       unfold labP
       rw [em]
       have:¬(V.int m=V.int m'):=fun z=>e (by injection z with z;exact z.symm)
       simp [this]
      rw [this,kz (fun z=>e (by injection z)),hL m']
      simp
   | _=>rw [em] at hfit;cases hfit
  ·have hne:r.op≠"label":=fun z=>c (by rw [z];exact ki rfl)
   refine ⟨kvs',_,_,rfl,s4,hD',by lia,fun m'=>?_⟩
   have:labP m' r=false:=by unfold labP;rw [kh hne];rfl
   rw [ZM hr1' m',this,hL m']
   simp
 ·rintro σ H2 ⟨kvs',v4,v5,rfl,s2,hD,hkl,hL⟩
  rw [hml,List.take_length] at hL
  refine ⟨_,rfl,d,kvs,rfl,.inl (s2 _ _ hd),fun nd hnd=>⟨by show 0≤sizeLine;decide,fun sa hsa=>⟨by show 0≤sizeLine;decide,fun sh hsh=>⟨by show 0≤sizeLine;decide,fun oa hoa=>⟨by show 4≤sizeLine;decide,fun t ht=>⟨t,_,rfl,SqT.of zb,rfl,_,_,rfl,_,_,rfl,_,_,rfl,_,_,rfl,rfl,?_⟩⟩⟩⟩⟩⟩
  have z1:=zh hnd (.dK kvs)
  have z2:=zh hsa (.lst [])
  have z3:=zh hsh (.lst [])
  have z4:=zh hoa (.lst [])
  have z5:=zh ht (.tup [.ref nd,.ref sa,.ref sh,.ref oa])
  have back:∀{H4:Hp} {b:Addr},Same H H4→H4 b=none→H b=none:=fun {H4 b} s h=>by
   cases e:H b with
   | none=>rfl
   | some o=>rw [s _ _ e] at h;cases h
  have hnd':=(z2.trans (z3.trans (z4.trans z5))) _ _ (zb:upd H2 nd (.dK kvs) nd=_)
  have hsa':=(z3.trans (z4.trans z5)) _ _ (zb:upd (upd H2 nd (.dK kvs)) sa (.lst []) sa=_)
  have hsh':=(z4.trans z5) _ _ (zb:upd (upd (upd H2 nd (.dK kvs)) sa (.lst [])) sh (.lst []) sh=_)
  have hoa':=z5 _ _ (zb:upd (upd (upd (upd H2 nd (.dK kvs)) sa (.lst [])) sh (.lst [])) oa (.lst []) oa=_)
  have zz:=z1.trans (z2.trans (z3.trans (z4.trans z5)))
  have n1:sh≠sa:=(ze (zb:upd (upd H2 nd (.dK kvs)) sa (.lst []) sa=_) hsh).symm
  have n2:sh≠oa:=ze (zb:upd (upd (upd H2 nd (.dK kvs)) sa (.lst [])) sh (.lst []) sh=_) hoa
  have n4:sa≠oa:=ze (z3 _ _ (zb:upd (upd H2 nd (.dK kvs)) sa (.lst []) sa=_)) hoa
  obtain ⟨p0,g0,e0,h0,hrun⟩:=z6h T hc hv hk hk8
  have R0:LwAt H (upd (upd (upd (upd (upd H2 nd (.dK kvs)) sa (.lst [])) sh (.lst [])) oa (.lst [])) t (.tup [.ref nd,.ref sa,.ref sh,.ref oa])) wd nd sa sh oa rs ⟨[],kvs,[]⟩ []:=
   ⟨s2.trans zz,hwd,back s2 hnd,back (s2.trans z1) hsa,back (s2.trans (z1.trans z2)) hsh,back (s2.trans (z1.trans (z2.trans z3))) hoa,⟨kvs',zz _ _ hD,hL⟩,⟨hsa',hnd',hoa',n4⟩,⟨[],hsh',.nil⟩,n1,n2,ze hD hnd⟩
  generalize upd (upd (upd (upd (upd H2 nd (.dK kvs)) sa (.lst [])) sh (.lst [])) oa (.lst [])) t (.tup [.ref nd,.ref sa,.ref sh,.ref oa])=H3 at R0 ⊢
  clear z1 z2 z3 z4 z5 hnd' hsa' hsh' hoa' zz hnd hsa hsh hoa ht hD s2 hL hkl back n1 n2 n4
  generalize hs0:(⟨⟨[],kvs,[]⟩,g0,[],onE,some p0⟩:S5)=s0 at h0 hrun
  refine ⟨LW H rs S s0 steps l d wd nd sh oa,
   ⟨steps - 0,0,0,[],sa,_,_,_,_,_,_,_,_,p0,rfl,Nat.zero_le _,rfl,by rw [←hs0];exact R0,h0,by rw [←hs0];rfl,by rw [←hs0];exact e0⟩,?_⟩
  clear R0 e0
  rintro k σ H2 ⟨i,a,ga,sa,x5,x11,x12,x13,x14,x15,x16,x17,p,rfl,hi,rfl,R,hG,hhere,hcm⟩
  obtain ⟨r,res,m',hrp,hsil,hok,hrow,hm',hrc,thr,hnx,hfin⟩:=z4i T hc hv (by lia) hG hhere
  obtain ⟨pG,gG1,gG2,gG3,_⟩:=id hG
  obtain ⟨N,hN1,hN2⟩:=n_of (LW H rs S s0 steps l d wd nd sh oa) (steps - i)
  refine ⟨true,rfl,iteT ⟨N,hN1,?_⟩⟩
  obtain ⟨gas,g1,g2⟩:=R.gd
  have hl2:=R.same _ _ hl
  have hR2:=hR.same R.same
  refine ⟨_,rfl,_,rfl,_,rfl,sa,_,rfl,.inl (SqL.of R.ma.st),_,rfl,l,sh,as,gas,rs,_,a,200,p,ga,_,rfl,hl2,hR2,g1,g2,ze hl R.f4,hcm,fun gas' H4 k1 h1 h2=>?_⟩
  have R4:=R.pass k1 h1 h2
  clear R g1 g2 h1 h2 k1 hl2 hR2
  refine ⟨_,rfl,_,rfl,rfl,decide (V.int (i:Nat)=V.int (steps:Nat)),rfl,?_⟩
  by_cases c:i=steps
  ·subst c
   rw [ki rfl]
   refine iteT ⟨by show 1≤sizeLine;decide,fun ea hea=>⟨_,rfl,_,rfl,by show 3≤sizeLine;decide,fun t ht=>?_⟩⟩
   have s5:=zh hea (.tup [.str "on"])
   have s6:=zh ht (.tup [.ref ea,.ref oa,.int (i:Nat)])
   have R5:=R4.more (s5.trans s6)
   refine q t ea oa _ _ i _ R5.same zb (s6 _ _ zb) R5.ma.sd ?_
   rw [hrun i hst,gG2,gG3]
   rfl
  rw [kh (fun z=>c (by injection z with z;lia))]
  have hl4:=R4.same _ _ hl
  obtain ⟨ra,hra,har⟩:=(hR.same R4.same).get' hrp
  refine iteF ⟨_,rfl,_,rfl,l,_,_,_,rfl,rfl,SqL.of hl4,zq hra,ra,_,rfl,SqT.of har,rfl,_,_,rfl,_,_,rfl,_,_,rfl,rfl,?_⟩
  refine ⟨_,rfl,_,_,rfl,rfl,_,rfl,_,rfl,_,_,rfl,rfl,?_⟩
  have hmem:=kI hrp
  obtain ⟨so,hso,_⟩:=(hc.ok r hmem).parts
  refine ⟨l,wd,nd,sa,sh,oa,p,((i+1:Nat):Int),r.line,r.op,r.arg,_,_,_,_,_,H,rs,_,m',res,_,rfl,R4,hok,hrow,hm',z4x hso hsil,fun hj=>JK hc hrp (qT.mpr hj),z86 (hc.ok r hmem),hrc,thr,?_,?_⟩
  ·intro sa' at' kind' x16' x17' m'' gs'' H' R' hn
   obtain ⟨c1,c2,p',c3,c4⟩:=hnx m'' gs'' at' hn
   refine hN2 (steps - (i+1)) _ _ (by lia) ⟨i+1,at',gs'',sa',_,_,_,_,_,_,_,_,p',rfl,by lia,rfl,?_,c2,c3,?_⟩
   ·rw [c1];exact R'
   ·rw [c1];exact c4
  ·intro t ea e H' s5 h1 h2 h3 hf
   obtain ⟨c1,c2,c3,c4⟩:=hfin e hf
   refine q t ea oa e m'.sd (i+1) H' s5 h1 h2 h3 ?_
   rw [hrun steps hst,Qr c3 steps (by lia),c2,c1,c4]
end
end My
set_option maxHeartbeats 4000000
namespace L2
open PySem PySem.Spec PyProof.Rows
section
variable {X:Cx}
def rEqS (K:ky):R2:=fun x y H Q=>∃(p q:Addr) (as:List Addr),x=.ref p∧y=.ref q∧SqL K H p (as.map V.ref)∧SqL K H q (as.map V.ref)∧Q (.bl true) H
theorem z3d (hu:X.A.units < cLine):OpR X (compareOp .Eq) (rEqS X.K):=by
 intro pins s σ H x y v u Q I rx ry h
 obtain ⟨p,q,as,rfl,rfl,h1,h2,hq⟩:=h
 cases rx
 cases ry
 obtain ⟨its,r,pl,_⟩:=I.list h1
 obtain ⟨its2,r2,pl2,_⟩:=I.list h2
 have e1:=z04 r
 have e2:=z04 r2
 subst e1
 subst e2
 refine SeqAt.eq_listAt (e:=fun _=>true) pl.isList pl2.isList rfl hu (fun j h1 _=>SeqAt.EqAt.same _) ⟨.bl _,H,I,rfl,?_⟩
 rw [List.all_eq_true.mpr fun _ _=>rfl]
 exact hq
noncomputable def dKV (q:Key × V):PyData × PyData:=(qM (kV q.1),qM q.2)
theorem z5P {P:Program} {w:World} {h:Heap}:∀{es:List DictEntry} {vs:List (Key × Value)} {kvs:List (Key × V)},Pairs (qd P w) es vs→KV kvs vs→(∀q∈kvs,jL q.2=true)→
  ReadsAll h (es.map (·.key)) ((kvs.map dKV).map (·.1)) []∧ReadsAll h (es.map (·.val)) ((kvs.map dKV).map (·.2)) []
 | _,_,_,.nil,.nil,_=>⟨.nil,.nil⟩
 | _,_,_,.cons (e:=e) (kv:=kv) h1 h2 t,.cons (a:=q) r rt,hf=>by
  obtain ⟨a,b⟩:=z5P (h:=h) t rt fun q hq=>hf q (kS _ hq)
  have k1:Reads h e.key (qM (kV q.1)) []:=by
   rw [r.1]
   rcases qq (show z0v kv.1 e.key=true from h1) with ⟨i,t,e1,e2⟩ | ⟨x,t,e1,e2⟩
   ·rw [e1,e2];exact .int i t
   ·rw [e1,e2];exact .str x t
  have k2:Reads h e.val (qM q.2) []:=by
   rw [h2]
   exact Je (hf q (kR ..)) r.2
  exact ⟨ReadsAll.cons k1 a,ReadsAll.cons k2 b⟩
theorem z5e {pins:List (Addr × Obj)} {σ:St} {H:Hp} {s:Shared} (I:Inv X pins σ H s) {a:Addr} {kvs:List (Key × V)} (e:H a=some (.dK kvs)) (hf:∀q∈kvs,jL q.2=true):Reads s.heap (.ref a) (.dict (kvs.map dKV)) [a]∧sysModules∉[a]:=by
 obtain ⟨_,hS,vs,r,o,es,ep,g1,g2,g3,g4,g5,g6⟩:=z2A I.hok e
 obtain ⟨x,y⟩:=z5P (h:=s.heap) g5 r hf
 refine ⟨?_,fun z=>?_⟩
 ·have:=Reads.dict g1 g2.1 g3 x y
  simpa using this
 ·rw [ko] at z
  rw [←z] at hS
  simp at hS
structure z8S (kvs:List (Key × V)):Prop where
 fl:∀q∈kvs,jL q.2=true
 sh:(PyData.dict (kvs.map dKV)).showable=true
 dp:(PyData.dict (kvs.map dKV)).depth≤5
 ln:(PyData.dict (kvs.map dKV)).shown.length≤100000
theorem z2Y {kvs:List (Key × V)} (h:∀q∈kvs,Zx (kV q.1)∧Zx q.2) (hl:kvs.length≤100):z8S kvs:=by
 have main:∀{kvs:List (Key × V)},(∀q∈kvs,Zx (kV q.1)∧Zx q.2)→PyData.showableKv (kvs.map dKV)=true∧PyData.depthKv (kvs.map dKV)=0∧((PyData.shownKv (kvs.map dKV)).map (fun t=>t.length)).sum≤122 * kvs.length∧(PyData.shownKv (kvs.map dKV)).length=kvs.length:=by
  intro kvs
  induction kvs with
  | nil=>intro _;exact ⟨by simp only [List.map_nil,PyData.showableKv],by simp only [List.map_nil,PyData.depthKv],by simp only [List.map_nil,PyData.shownKv];decide,by simp only [List.map_nil,PyData.shownKv];rfl⟩
  | cons q r ih=>
   intro h
   obtain ⟨a,b,c,d⟩:=ih fun y hy=>h y (kS _ hy)
   obtain ⟨⟨e1,e2,e3⟩,f1,f2,f3⟩:=h q (kR ..)
   refine ⟨?_,?_,?_,?_⟩
   ·simp only [kX,dKV,PyData.showableKv,e2,f2,Bool.true_and]
    exact a
   ·simp only [kX,dKV,PyData.depthKv,(QQ _).2]
    have b:PyData.depthKv (r.map fun q=>(qM (kV q.1),qM q.2))=0:=b
    lia
   ·simp only [kX,dKV,PyData.shownKv,List.sum_cons,kQ]
    rw [strLen_append,strLen_append]
    have c:((PyData.shownKv (r.map fun q=>(qM (kV q.1),qM q.2))).map (fun t=>t.length)).sum≤122 * r.length:=c
    have l2:(": ":Str).length=2:=rfl
    lia
   ·simp only [kX,dKV,PyData.shownKv,kQ]
    have d:(PyData.shownKv (r.map fun q=>(qM (kV q.1),qM q.2))).length=r.length:=d
    lia
 obtain ⟨a,b,c,d⟩:=main h
 refine ⟨fun q hq=>(h q hq).2.1,by simp only [PyData.showable];exact a,by simp only [PyData.depth,b];lia,?_⟩
 simp only [PyData.shown]
 unfold dictText
 rw [strLen_append,strLen_append]
 have l:=tupleText_len_le (PyData.shownKv (kvs.map dKV))
 have l0:(Str.join ", " (PyData.shownKv (kvs.map dKV))).length≤(tupleText (PyData.shownKv (kvs.map dKV))).length:=by
  unfold tupleText
  rw [strLen_append,strLen_append]
  lia
 have l3:("{":Str).length=1:=rfl
 have l4:("}":Str).length=1:=rfl
 lia
def ShR (K:ky) (H:Hp) (a:Addr) (d:PyData):Prop:=(RdV K H (.ref a) d∧z49 d)∨∃kvs,H a=some (.dK kvs)∧d=.dict (kvs.map dKV)∧z8S kvs
def z7q (K:ky) (t:TE):TE:=fun σ H Q=>t σ H fun x H1=>∃a d,x=.ref a∧ShR K H1 a d∧Q (.str d.shown) H1
theorem z4r {value:Expr} {pos:Pos} {t:TE} (hr:Room 1 X.A) (h:PE X value t):PE X (.FormattedValue value (-1) none pos) (z7q X.K t):=by
 intro pins s σ H Q I hq
 refine wpAny_FormattedValue_plain (thn (h pins s σ H _ I hq) fun v s1 h1=>?_)
 have hg:=hr.gd
 have hu:=hr.un
 obtain ⟨x,H1,I1,r1,a,d,rfl,hR,q⟩:=h1
 cases r1
 rcases hR with ⟨hR,⟨k1,k2,k3,k4⟩⟩ | ⟨kvs,e,rfl,⟨k0,k1,k3,k4⟩⟩
 ·obtain ⟨as,rr⟩:=Ju I1 (x:=.ref a) (u:=.ref a) rfl hR
  refine formatField_of_reads rr k1 (PyData.noDict_hsm k2) hg (by lia) (fun _ _ e=>e) (fun h' u tk hk=>?_) ?_
  ·exact ⟨.str _,H1,I1.kept hk,⟨_,rfl⟩,q⟩
  ·rw [sizeLine_eq]
   lia
 ·obtain ⟨rr,hno⟩:=z5e I1 e k0
  refine formatField_of_reads rr k1 (fun _=>hno) hg (by lia) (fun _ _ e=>e) (fun h' u tk hk=>?_) ?_
  ·exact ⟨.str _,H1,I1.kept hk,⟨_,rfl⟩,q⟩
  ·rw [sizeLine_eq]
   lia
end
end L2
namespace My
open PySem PySem.Spec PyProof.Rows L2
variable {P:Program} {w:World} {K:ky} {mg:Str→Option Value} {base:Heap}
section
def Jr (K:ky):Sp:=fun vs H Q _=>∃a d,vs=[.ref a]∧ShR K H a d∧Q (.str d.shown) H
theorem z3F (D:zo K mg "_law_shown" (top 125)):FN P w K mg base 2 "_law_shown" ["_law_thing"] (Jr K):=by
 refine FN.o D z9b fun f cdv A outer s H vs Q E hr h=>?_
 obtain ⟨a,d,rfl,hR,q⟩:=h
 exact ⟨_,zc (zm (z4u (z4r hr (pv 0)))),_,rfl,a,d,rfl,hR,q⟩
theorem z2Z {vs:List V} {H:Hp} {Q:VK} {E:XK} (h:z2N K vs H Q E):Jr K vs H Q E:=by
 obtain ⟨a,d,e,h1,h2,q⟩:=h
 exact ⟨a,d,e,.inl ⟨h1,h2⟩,q⟩
theorem z0K:∀nm∈(["a","b","c"]:List Str),(qM (.str nm)).showable=true∧(qM (.str nm)).shown.length≤60:=by trivial
theorem z1A {H:Hp} {a:Addr} {kvs:List (Key × V)} (h:H a=some (.dK kvs)) (g:Zc 3 kvs) {Q:VK} {E:XK} (q:Q (.str (PyData.dict (kvs.map dKV)).shown) H):Jr K [.ref a] H Q E:=by
 refine ⟨a,_,rfl,.inr ⟨kvs,h,rfl,z2Y (fun q hq=>?_) (by have:=g.len;lia)⟩,q⟩
 obtain ⟨⟨nm,e,hn⟩,hv⟩:=g.all q hq
 refine ⟨?_,QG hv⟩
 rw [e]
 exact ⟨rfl,(z0K nm hn).1,(z0K nm hn).2⟩
end
set_option maxHeartbeats 8000000
section
def z4f (K:ky):Sp:=fun vs H Q _=>∃(a:Addr) (ns:List Int),vs=[.ref a]∧Scr K H a (ns.map V.int)∧ns.length≤63∧∀H',Q (.bl true) H'
theorem Jt:zj ["_law_script","_law_town_here","_law_code_here","_law_names","_law_steps","_law_due","_law_given_code","_law_given_names","_law_told"] ["_law_script"] (zd (top 127)):=fsM
theorem z8w {f:Addr} {fd:FuncData} (D:Fun K "law" "law" (top 127) f fd) (G:Glo mg) (FT:FN P w K mg base 1 "_law_town" ["_law_script"] (z5s K)) (FLC:FN P w K mg base 17 "_law_code" ["_law_script","_law_town_here","_law_many"] (z0b K))
  (FG:FN P w K mg base 4 "_law_given" ["_law_script","_law_town_here"] (z2T K)) (FD:FN P w K mg base 1 "_law_draw" ["_law_script","_law_town_here","_law_many"] (z0c K)) (FPk:FN P w K mg base 2 "_law_pick" ["_law_script","_law_town_here","_law_some"] (J5 K)) (FR:FN P w K mg base 13 "run" ["code","names","steps"] (z7D K))
  (FL:FN P w K mg base 5 "_law_run" ["_law_code_here","_law_given_names","_law_steps"] z5y) (FS:FN P w K mg base 2 "_law_shown" ["_law_thing"] (Jr K)) (FW:FN P w K mg base 1 "_law_whole" ["_law_thing"] (sp1 jC)):FnOk P w K mg base CX0 18 f fd ["_law_script"] (z4f K):=by
 refine D.ok Jt (fun vs H Q E h=>by obtain ⟨a,ns,rfl,_⟩:=h;rfl) (fun cdv A outer s H vs Q E hr h=>?_)
 obtain ⟨a,ns,rfl,hS,hns,q⟩:=h
 have hr1:=hr.mono (show 1≤17 by decide)
 have hr2:=hr.mono (show 2≤17 by decide)
 have hr4:=hr.mono (show 4≤17 by decide)
 have hr5:=hr.mono (show 5≤17 by decide)
 have hr13:=hr.mono (show 13≤17 by decide)
 have hu:(A.deeper (envOfC "law" (zd (top 127)) s.heap.objs.size f cdv)).units < cLine:=by have:=hr.un;lia
 refine ⟨_,z8 (zA (i:=1) Jt.nd rfl (Or.inl rfl) (zp FT hr1 rfl (z6 (pv 0) z7)))
  (z8 (zA (i:=2) Jt.nd rfl (Or.inl rfl) (zp FLC hr rfl (z6 (pv 0) (z6 (pv 1) (z6 zg z7)))))
  (z8 (zA (i:=3) Jt.nd rfl (Or.inl rfl) (zp FG hr4 rfl (z6 (pv 0) (z6 (pv 1) z7))))
  (z8 (zA (i:=4) Jt.nd rfl (Or.inl rfl) (zp FPk hr2 rfl (z6 (pv 0) (z6 (pv 1) (z6 (qu (z6 (zp FD hr1 rfl (z6 (pv 0) (z6 (pv 1) (z6 zg z7)))) (z6 zg z7))) z7)))))
  (z8 (zA (i:=5) Jt.nd rfl (Or.inl rfl) (zp FL hr5 rfl (z6 (pv 2) (z6 (pv 3) (z6 (pv 4) z7)))))
  (z8 (zA (i:=6) Jt.nd rfl (Or.inl rfl) (ji jH rfl G.list jM (z6 (pv 2) z7)))
  (z8 (zA (i:=7) Jt.nd rfl (Or.inl rfl) (ji Z9 rfl G.dict ZW (z6 (pv 3) z7)))
  (z8 (zA (i:=8) Jt.nd rfl (Or.inl rfl) (zp FR hr13 rfl (z6 (pv 6) (z6 (pv 7) (z6 (pv 4) z7)))))
  (z8 (zD (PW.pt (Qz (zl z6r (zp FS hr2 rfl (z6 (pv 8) z7)) (zp FS hr2 rfl (z6 (pv 5) z7)) (zn _))
   (Qz (jy (qK (zy zM rfl G.isinstance zx (z6 (pv 8) (z6 (Z2 "tuple" rfl G.tuple Jm) z7)))))
   (Zj (jy (qK (zy zM rfl G.isinstance zx (z6 (zP qo (pv 8) zg (fun _ _=>rfl)) (z6 (Z2 "list" rfl G.list jM) z7)))))))))
   (zc (zm JC)) zu)
  (zc (zm (j7 (qv (z3d hu) (pv 6) (pv 2) (zn _))
   (j7 (qv zT (zp FS hr2 rfl (z6 (pv 7) z7)) (zp FS hr2 rfl (z6 (pv 3) z7)) (zn _))
   (jh (zp FW hr1 rfl (z6 (zP qo (pv 8) zg (fun _ _=>rfl)) z7))))))))))))))),?_⟩
 try dsimp only [L2.cxOf,L2.Cx.nox]
 refine ⟨_,rfl,a,ns,rfl,hS,by lia,fun t H1 s1 ht hT1=>?_⟩
 have hS1:Scr K H1 a (ns.map V.int):=hS.keep fun o u e=>s1 _ _ e
 refine ⟨_,rfl,_,rfl,a,t,ns,0,ns,4,rfl,hS1,by lia,rfl,hT1,by lia,by decide,by decide,fun l as rs k c2 cells2 H2 hl2 hR2 gd hΓ hk hlo hhi hlt hcl2 hT2 hc2 kp2=>?_⟩
 have hS2:=hS1.keep1 kp2 hT1
 refine ⟨_,rfl,_,rfl,a,t,ns,c2,cells2,rfl,hS2,by lia,hcl2,hT2,by lia,fun d kvs c3 cells3 H3 hd3 hgv hcl3 hT3 hc3 kp3=>?_⟩
 have hS3:=hS2.keep1 kp3 hT2
 have hl3:=kp3 _ _ hl2 hlt
 have hR3:zS H3 as rs:=hR2.keep fun b xs e=>kp3 b _ e (zC e hT2 nofun)
 refine ⟨_,rfl,_,rfl,_,rfl,_,rfl,a,t,ns,c3,cells3,30,rfl,hS3,by lia,hcl3,hT3,by lia,by decide,by decide,fun i4 cells4 H4 i40 i41 l4 hT4 kp4=>?_⟩
 have hS4:=hS3.keep1 kp4 hT3
 have hl4:=kp4 _ _ hl3 hlt
 have hR4:zS H4 as rs:=hR3.keep fun b xs e=>kp4 b _ e (zC e hT3 nofun)
 have ndt:d≠t:=zC hd3 hT3 nofun
 have hd4:=kp4 _ _ hd3 ndt
 refine ⟨by show 2≤sizeLine;decide,fun p hp=>?_⟩
 have sp:=zh hp (.lst [.int i4,.int 200])
 refine ⟨a,t,p,ns,c3+1,cells4,[.int i4,.int 200],rfl,hS4.keep fun o u e=>sp _ _ e,by lia,l4,sp _ _ hT4,by lia,zb,(ze hT4 hp).symm,by show 1≤2;decide,by show 2≤1000;decide,fun v cells5 H5 hv5 l5 hT5 kp5=>?_⟩
 obtain ⟨st,rfl,hst⟩:∃st:Nat,v=.int (st:Nat)∧st≤200:=by
  simp only [kF,kq,or_false] at hv5
  rcases hv5 with rfl | rfl
  ·obtain ⟨j,rfl⟩:=yb i40
   exact ⟨j,rfl,by lia⟩
  ·exact ⟨200,rfl,by lia⟩
 have hl5:=kp5 _ _ (sp _ _ hl4) hlt
 have hR5:zS H5 as rs:=(hR4.same sp).keep fun b xs e=>kp5 b _ e (zC e (sp _ _ hT4) nofun)
 have hd5:=kp5 _ _ (sp _ _ hd4) ndt
 clear hl4 hR4 hd4 hl3 hR3 hd3 hl2 hR2 kp2 kp3 kp4 kp5 hT1 hT2 hT3 hT4 hT5 hS1 hS2 hS3 hS4 hS sp hp hv5 i40 i41
 have hC:=gd.code hk hlo (by lia)
 obtain ⟨Sx,TY⟩:=gd.typed hΓ
 have hN:=hgv.names
 have hkv:∀q∈kvs,okV q.2=true:=fun q hq=>(hgv.all q hq).2
 have hk8:kvs.length≤8:=by have:=hgv.len;lia
 obtain ⟨EE,DD,NN,RR⟩:=z6g TY hC gd.push (kvs:=kvs) hkv hk8
 refine ⟨_,rfl,_,rfl,_,rfl,l,d,as,rs,Sx,kvs,st,rfl,hl5,hR5,hC,TY,gd.push,hd5,hkv,hk8,by lia,fun o1 ea1 tl1 e sd n H6 s6 ho1 hea1 htl1 hrun=>?_⟩
 have r1:=RR.run st (by lia)
 have f1:=RR.form st (by lia)
 have n1:=RR.n_le st (by lia)
 obtain ⟨ok1,ln1⟩:=RR.okd st (by lia)
 rw [hrun] at r1
 injection r1 with r1
 obtain ⟨rfl,r2⟩:=Prod.mk.inj r1
 obtain ⟨rfl,rfl⟩:=Prod.mk.inj r2
 have hl6:=s6 _ _ hl5
 have hd6:=s6 _ _ hd5
 have hR6:=hR5.same s6
 clear s6 hl5 hd5 hR5 r1 r2
 refine ⟨_,rfl,l,_,rfl,.inl (SqL.of hl6),fun l2 hl2=>?_⟩
 have s7:=zh hl2 (.lst (as.map V.ref))
 have hg7:upd H6 l2 (.lst (as.map V.ref)) l2=some (.lst (as.map V.ref)):=zb
 generalize upd H6 l2 (.lst (as.map V.ref))=H7 at *
 refine ⟨_,rfl,d,_,rfl,Rd.of (s7 _ _ hd6),fun d2 hd2=>?_⟩
 have s8:=zh hd2 (.dK kvs)
 have hd8:upd H7 d2 (.dK kvs) d2=some (.dK kvs):=zb
 generalize upd H7 d2 (.dK kvs)=H8 at *
 have s68:=s7.trans s8
 refine ⟨_,rfl,_,rfl,_,rfl,l2,d2,as,rs,kvs,st,EE st,DD st,NN st,rfl,s8 _ _ hg7,hR6.same s68,hC,hd8,hN,by lia,hrun,fun o2 ea2 tl2 H9 s9 ho2 hea2 htl2=>?_⟩
 have s69:=s68.trans s9
 have eqS':∀x:Str,decide (V.str x=V.str x)=true:=fun x=>ki rfl
 refine ⟨_,rfl,z2Z (z5G ⟨ea2,tl2,ho2,hea2,htl2⟩ f1 ok1 (by lia) (by lia) ?_)⟩
 refine ⟨_,rfl,z2Z (z5G (z4a.same ⟨ea1,tl1,ho1,SqT.of hea1,htl1⟩ s69) f1 ok1 (by lia) (by lia) ⟨rfl,_,rfl,?_⟩)⟩
 rw [eqS']
 refine iteF ⟨_,rfl,_,"tuple",_,true,rfl,.tup ho2,rfl,_,rfl,iteF ?_⟩
 refine ⟨_,rfl,_,_,_,_,rfl,rfl,SqT.of ho2,rfl,_,"list",_,true,rfl,.lst htl2,rfl,_,rfl,iteF ?_⟩
 refine ⟨_,rfl,_,rfl,l2,l,as,rfl,rfl,SqL.of ((s8.trans s9) _ _ hg7),SqL.of (s69 _ _ hl6),_,rfl,iteT ?_⟩
 refine ⟨_,rfl,z1A (s9 _ _ hd8) hgv ?_⟩
 refine ⟨_,rfl,z1A (s69 _ _ hd6) hgv ⟨rfl,_,rfl,?_⟩⟩
 rw [eqS']
 refine iteT ⟨_,rfl,_,_,_,_,rfl,rfl,SqT.of ho2,rfl,_,rfl,.int _,?_⟩
 exact q _
end
section
structure Clss (K:ky) (mg:Str→Option Value) (CW CH:Addr):Prop where
 mW:mg "Walk"=some (.ref CW)
 mH:mg "Hold"=some (.ref CH)
 cW:QW K CW
 cH:jJ K CH
 iW:HasI K CW "Walk.__init__" (My.mW 0)
 iH:HasI K CH "Hold.__init__" (My.mH 0)
 m1:HasM K CW "come_to" "Walk.come_to" (My.mW 1)
 m2:HasM K CW "finish" "Walk.finish" (My.mW 2)
 m3:HasM K CW "take_fault" "Walk.take_fault" (My.mW 3)
 m4:HasM K CW "step" "Walk.step" (My.mW 4)
 m5:HasM K CW "place" "Walk.place" (My.mW 5)
 m9:HasM K CW "told" "Walk.told" (My.mW 9)
 m11:HasM K CW "end" "Walk.end" (My.mW 11)
 m12:HasM K CW "__len__" "Walk.__len__" (My.mW 12)
end
def LK (K:ky) (f:Addr) (x q:Str) (st:Stmt):Prop:=∃(oc:Value) (od an:Option Addr) (osl:Array (Option Value)) (kV doc pm cdv ct:Value),K.lookup f=some ⟨oc,od,.func (PySem.W.fnOf x q (qz st) (zN st) (zd st) .none kV doc pm an cdv ct),osl⟩∧PySem.W.codeIn K cdv q=true∧PySem.W.keepIn K (.ref f)=true
theorem lk_mk {K:ky} {f:Addr} {x q:Str} {st:Stmt} {oc:Value} {od an:Option Addr} {osl:Array (Option Value)} {kV doc pm cdv ct:Value} (l:K.lookup f=some ⟨oc,od,.func (PySem.W.fnOf x q (qz st) (zN st) (zd st) .none kV doc pm an cdv ct),osl⟩) (c:PySem.W.codeIn K cdv q=true) (k:PySem.W.keepIn K (.ref f)=true):LK K f x q st:=⟨_,_,_,_,_,_,_,_,_,l,c,k⟩
def HD (K:ky) (f:Addr) (x:Str) (n:Nat):Prop:=PySem.W.nsIn K mainGlobals x=some (some (.ref f))∧LK K f x x (top n)
theorem hdm {K:ky} {f:Addr} {x:Str} {n:Nat} {oc:Value} {od an:Option Addr} {osl:Array (Option Value)} {kV doc pm cdv ct:Value} (a:PySem.W.nsIn K mainGlobals x=some (some (.ref f))) (l:K.lookup f=some ⟨oc,od,.func (PySem.W.fnOf x x (qz (top n)) (zN (top n)) (zd (top n)) .none kV doc pm an cdv ct),osl⟩) (c:PySem.W.codeIn K cdv x=true) (k:PySem.W.keepIn K (.ref f)=true):HD K f x n:=⟨a,lk_mk l c k⟩
theorem z9B {K:ky} {h:Heap} {mg:Str→Option Value} {x:Str} {n:Nat} {f:Addr} (X:K.In h) (G:h.Ns mainGlobals mg) (l:HD K f x n):zo K mg x (top n):=by
 obtain ⟨a,_,_,_,_,_,_,_,_,_,l,c,k⟩:=l
 exact ⟨f,_,z1U l c k,km X G a⟩
theorem z0y {K:ky} {C:Addr} {x q:Str} {st:Stmt} (l:∃f,PySem.W.findIn K (.ref C) x=some (some (.ref f))∧PySem.W.isFn K (.ref f)=true∧LK K f x q st):HasM K C x q st:=by
 obtain ⟨f,a,i,_,_,_,_,_,_,_,_,_,l,c,k⟩:=l
 exact ⟨f,_,z1U l c k,⟨a,i,k⟩⟩
theorem z8n {K:ky} {C:Addr} {q:Str} {st:Stmt} {f:Addr} (mk:PySem.W.makesIn K C=true) (a:PySem.W.findIn K (.ref C) "__init__"=some (some (.ref f))) (i:PySem.W.isFn K (.ref f)=true) (l:LK K f "__init__" q st) (kc:PySem.W.keepIn K (.ref C)=true):HasI K C q st:=by
 obtain ⟨_,_,_,_,_,_,_,_,_,l,c,k⟩:=l
 exact ⟨f,_,z1U l c k,⟨mk,a,i,kc⟩⟩
def CN (K:ky) (x:Str) (i:Int):Prop:=∃u,PySem.W.nsIn K mainGlobals x=some (some u)∧RelV (.int i) u
theorem cnm {K:ky} {x:Str} {i:Int} {u:Value} (a:PySem.W.nsIn K mainGlobals x=some (some u)) (r:RelV (.int i) u):CN K x i:=⟨u,a,r⟩
theorem JX {K:ky} {h:Heap} {mg:Str→Option Value} {x:Str} {i:Int} (X:K.In h) (G:h.Ns mainGlobals mg) (l:CN K x i):∃u,mg x=some u∧RelV (.int i) u:=l.elim fun u q=>⟨u,km X G q.1,q.2⟩
def KT (K:ky) (w:World) (x:Str) (tab:List (Str × V)):Prop:=∃a,PySem.W.nsIn K mainGlobals x=some (some (.ref a))∧KTab w.params K a tab
theorem ktm {K:ky} {w:World} {x:Str} {tab:List (Str × V)} {a:Addr} {e:Array DictEntry} {n:Nat} (h:PySem.W.nsIn K mainGlobals x=some (some (.ref a))) (l:K.lookup a=some ⟨.type "dict",none,.dict e n,#[]⟩) (k:PySem.W.KeysLit w.params e.toList) (m:(a == sysModules)=false)
  (p:Paired (fun (p:Str × V) (e:DictEntry)=>(∃t,e.key=.str p.1 t)∧RelV p.2 e.val) tab e.toList):KT K w x tab:=⟨a,h,e,n,l,k,m,p⟩
theorem ktg {K:ky} {w:World} {h:Heap} {mg:Str→Option Value} {x:Str} {tab:List (Str × V)} (X:K.In h) (G:h.Ns mainGlobals mg) (l:KT K w x tab):∃d,mg x=some (.ref d)∧KTab w.params K d tab:=l.elim fun d q=>⟨d,km X G q.1,q.2⟩
def KU (K:ky) (x:Str) (xs:List V):Prop:=∃a,PySem.W.nsIn K mainGlobals x=some (some (.ref a))∧KTup K a xs
def MD (K:ky) (C:Addr) (x q:Str) (st:Stmt):Prop:=∃f,PySem.W.findIn K (.ref C) x=some (some (.ref f))∧PySem.W.isFn K (.ref f)=true∧LK K f x q st
theorem mdm {K:ky} {C f:Addr} {x q:Str} {st:Stmt} (a:PySem.W.findIn K (.ref C) x=some (some (.ref f))) (i:PySem.W.isFn K (.ref f)=true) (l:LK K f x q st):MD K C x q st:=⟨f,a,i,l⟩
theorem z6y {K:ky} {a:Addr} {xs:List V} {o:Obj} {its:Array Value} {n:Nat} (l:K.lookup a=some o) (c:o.cls=.type "tuple") (d:o.data=.seq its n) (v:Vals xs its.toList) (z:xs.length≤1000):KTup K a xs:=
 ⟨o,its,n,l,c,d,by have h1:xs.length=its.toList.length:=v.length;have h2:its.toList.length=its.size:=Array.length_toList;exact z1w (by lia),v⟩
theorem kum {K:ky} {x:Str} {a:Addr} {xs:List V} {o:Obj} {its:Array Value} {n:Nat} (h:PySem.W.nsIn K mainGlobals x=some (some (.ref a))) (l:K.lookup a=some o) (c:o.cls=.type "tuple") (d:o.data=.seq its n) (v:Vals xs its.toList) (z:xs.length≤1000):KU K x xs:=⟨a,h,z6y l c d v z⟩
theorem kug {K:ky} {h:Heap} {mg:Str→Option Value} {x:Str} {xs:List V} (X:K.In h) (G:h.Ns mainGlobals mg) (l:KU K x xs):∃a,mg x=some (.ref a)∧KTup K a xs:=l.elim fun d q=>⟨d,km X G q.1,q.2⟩
theorem all_mk {l:PySem.W.OpenLaw} {w:World} {K:ky} {h:Heap} {mg:Str→Option Value} {fa CW CH T107 gfirst:Addr} {to107:Obj} {n107:Nat} (X:K.In h) (G:h.Ns mainGlobals mg) (hfa:mg "law"=some (.ref fa))
  {f14 f15 f16 f17 f18 f19 f20 f21 f22 f23 f24 f26 f27 f28 f29 f30 f31 f32 f33 f34 f44 f45 f46 f47 f48 f49 f50 f51 f52 f53 f54 f55 f58 f59 f60 f61 f62 f63 f64 f66 f67 f68 f76 f77 f78 f80 f81 f82 f83 f84 f85 f86 f87 f88 f89 f90 f91 f92 f93 f94 f95 f96 f98 f100 f102 f103 f104 f105 f106 f108 f109 f110 f111 f112 f113 f114 f115 f116 f117 f118 f119 f120 f121 f122 f123 f124 f125 f126 f127 f107 fW0 fH0:Addr} {od107 an107:Option Addr} {sl107:Array (Option Value)} {oc107 kV107 dc107 pm107 cd107 ct107:Value}
  {tfirst:Addr} {ofirst:Obj} {ifirst:Array Value} {nfirst:Nat}
{ogfirst:Obj} {igfirst:Array Value} {ngfirst:Nat}
  (l14:HD K f14 "is_number" 14)
  (l15:HD K f15 "is_number_within" 15)
  (l16:HD K f16 "is_letters" 16)
  (l17:HD K f17 "is_name" 17)
  (l18:HD K f18 "is_kind" 18)
  (l19:HD K f19 "is_mark" 19)
  (l20:HD K f20 "is_value_within" 20)
  (l21:HD K f21 "is_pushed" 21)
  (l22:HD K f22 "is_copied" 22)
  (l23:HD K f23 "is_swapped_with" 23)
  (l24:HD K f24 "is_none" 24)
  (l26:HD K f26 "is_op" 26)
  (l27:HD K f27 "arg_sort" 27)
  (l28:HD K f28 "arg_fits" 28)
  (l29:HD K f29 "is_row" 29)
  (l30:HD K f30 "label_places" 30)
  (l31:HD K f31 "mark_fits" 31)
  (l32:HD K f32 "first_bad_place" 32)
  (l33:HD K f33 "has_places" 33)
  (l34:HD K f34 "check_code" 34)
  (l44:HD K f44 "uppermost" 44)
  (l45:HD K f45 "depth_asked" 45)
  (l46:HD K f46 "lacks_values" 46)
  (l47:HD K f47 "lacks_guard" 47)
  (l48:HD K f48 "takes_beneath" 48)
  (l49:HD K f49 "moves" 49)
  (l50:HD K f50 "words_lacking" 50)
  (l51:HD K f51 "guards_behind" 51)
  (l52:HD K f52 "next_states" 52)
  (l53:HD K f53 "state_words" 53)
  (l54:HD K f54 "searched" 54)
  (l55:HD K f55 "states" 55)
  (l58:HD K f58 "is_true" 58)
  (l59:HD K f59 "are_same" 59)
  (l60:HD K f60 "sum_of" 60)
  (l61:HD K f61 "difference_of" 61)
  (l62:HD K f62 "product_of" 62)
  (l63:HD K f63 "quotient_of" 63)
  (l64:HD K f64 "rest_of" 64)
  (l66:HD K f66 "made_of_two" 66)
  (l67:HD K f67 "made_of_one" 67)
  (l68:HD K f68 "kind_raised" 68)
  (l76:HD K f76 "is_names" 76)
  (l77:HD K f77 "check_names" 77)
  (l78:HD K f78 "check_steps" 78)
  (l80:HD K f80 "do_push" 80)
  (l81:HD K f81 "do_load" 81)
  (l82:HD K f82 "do_quick" 82)
  (l83:HD K f83 "do_store" 83)
  (l84:HD K f84 "do_clear" 84)
  (l85:HD K f85 "do_drop" 85)
  (l86:HD K f86 "do_copy" 86)
  (l87:HD K f87 "do_swap" 87)
  (l88:HD K f88 "pushed_or_fault" 88)
  (l89:HD K f89 "do_two" 89)
  (l90:HD K f90 "do_one" 90)
  (l91:HD K f91 "do_tell" 91)
  (l92:HD K f92 "do_jump" 92)
  (l93:HD K f93 "do_if" 93)
  (l94:HD K f94 "do_or" 94)
  (l95:HD K f95 "do_return" 95)
  (l96:HD K f96 "do_raise" 96)
  (l98:HD K f98 "do_row" 98)
  (l100:HD K f100 "run" 100)
  (l102:HD K f102 "_law_town" 102)
  (l103:HD K f103 "_law_draw" 103)
  (l104:HD K f104 "_law_pick" 104)
  (l105:HD K f105 "_law_whole" 105)
  (l106:HD K f106 "_law_const" 106)
  (l108:HD K f108 "_law_mark" 108)
  (l109:HD K f109 "_law_value" 109)
  (l110:HD K f110 "_law_tried_value" 110)
  (l111:HD K f111 "_law_moved_value" 111)
  (l112:HD K f112 "_law_deed" 112)
  (l113:HD K f113 "_law_choice" 113)
  (l114:HD K f114 "_law_round" 114)
  (l115:HD K f115 "_law_tried" 115)
  (l116:HD K f116 "_law_code" 116)
  (l117:HD K f117 "_law_given" 117)
  (l118:HD K f118 "_law_true" 118)
  (l119:HD K f119 "_law_pair" 119)
  (l120:HD K f120 "_law_named" 120)
  (l121:HD K f121 "_law_made" 121)
  (l122:HD K f122 "_law_goes" 122)
  (l123:HD K f123 "_law_run" 123)
  (l124:HD K f124 "_law_else" 124)
  (l125:HD K f125 "_law_shown" 125)
  (l126:HD K f126 "_law_passed" 126)
  (l127:HD K f127 "law" 127)
  (a107:PySem.W.nsIn K mainGlobals "_law_put"=some (some (.ref f107)))
  (l107:K.lookup f107=some ⟨oc107,od107,.func (PySem.W.fnOf "_law_put" "_law_put" (qz (top 107)) (zN (top 107)) (zd (top 107)) (.ref T107) kV107 dc107 pm107 an107 cd107 ct107),sl107⟩)
  (c107:PySem.W.codeIn K cd107 "_law_put"=true)
  (k107:PySem.W.keepIn K (.ref f107)=true)
  (t107:K.lookup T107=some to107)
  (s107:to107.data=.seq #[Value.none] n107)
  (aCW:PySem.W.nsIn K mainGlobals "Walk"=some (some (.ref CW)))
  (pgCW:PySem.W.plainGet K CW Str.empty=true)
  (hdCW:PySem.W.hasDictIn K CW=true)
  (poCW:PySem.W.plainOver K CW=true)
  (saCW:PySem.W.findIn K (.ref CW) "__setattr__"=some (some (.builtin "object.__setattr__")))
  (mkCW:PySem.W.makesIn K CW=true)
  (kcCW:PySem.W.keepIn K (.ref CW)=true)
  (nCWrows:PySem.W.findIn K (.ref CW) "rows"=some none)
  (nCWgoals:PySem.W.findIn K (.ref CW) "goals"=some none)
  (nCWhold:PySem.W.findIn K (.ref CW) "hold"=some none)
  (nCWwards:PySem.W.findIn K (.ref CW) "wards"=some none)
  (nCWpassed:PySem.W.findIn K (.ref CW) "passed"=some none)
  (nCWending:PySem.W.findIn K (.ref CW) "ending"=some none)
  (nCWhere:PySem.W.findIn K (.ref CW) "here"=some none)
  (aCH:PySem.W.nsIn K mainGlobals "Hold"=some (some (.ref CH)))
  (pgCH:PySem.W.plainGet K CH Str.empty=true)
  (hdCH:PySem.W.hasDictIn K CH=true)
  (poCH:PySem.W.plainOver K CH=true)
  (saCH:PySem.W.findIn K (.ref CH) "__setattr__"=some (some (.builtin "object.__setattr__")))
  (mkCH:PySem.W.makesIn K CH=true)
  (kcCH:PySem.W.keepIn K (.ref CH)=true)
  (nCHheld:PySem.W.findIn K (.ref CH) "held"=some none)
  (nCHknown:PySem.W.findIn K (.ref CH) "known"=some none)
  (nCHsaid:PySem.W.findIn K (.ref CH) "said"=some none)
  (aW0:PySem.W.findIn K (.ref CW) "__init__"=some (some (.ref fW0)))
  (iW0:PySem.W.isFn K (.ref fW0)=true)
  (lW0:LK K fW0 "__init__" "Walk.__init__" (mW 0))
  (aH0:PySem.W.findIn K (.ref CH) "__init__"=some (some (.ref fH0)))
  (iH0:PySem.W.isFn K (.ref fH0)=true)
  (lH0:LK K fH0 "__init__" "Hold.__init__" (mH 0))
  (mm1:MD K CW "come_to" "Walk.come_to" (mW 1))
  (mm2:MD K CW "finish" "Walk.finish" (mW 2))
  (mm3:MD K CW "take_fault" "Walk.take_fault" (mW 3))
  (mm4:MD K CW "step" "Walk.step" (mW 4))
  (mm5:MD K CW "place" "Walk.place" (mW 5))
  (mm9:MD K CW "told" "Walk.told" (mW 9))
  (mm11:MD K CW "end" "Walk.end" (mW 11))
  (mm12:MD K CW "__len__" "Walk.__len__" (mW 12))
  (z_isinstance:PySem.W.nsIn K mainGlobals "isinstance"=some none)
  (z_int:PySem.W.nsIn K mainGlobals "int"=some none)
  (z_bool:PySem.W.nsIn K mainGlobals "bool"=some none)
  (z_str:PySem.W.nsIn K mainGlobals "str"=some none)
  (z_tuple:PySem.W.nsIn K mainGlobals "tuple"=some none)
  (z_list:PySem.W.nsIn K mainGlobals "list"=some none)
  (z_len:PySem.W.nsIn K mainGlobals "len"=some none)
  (z_range:PySem.W.nsIn K mainGlobals "range"=some none)
  (z_enumerate:PySem.W.nsIn K mainGlobals "enumerate"=some none)
  (z_all:PySem.W.nsIn K mainGlobals "all"=some none)
  (z_dict:PySem.W.nsIn K mainGlobals "dict"=some none)
  (z_max:PySem.W.nsIn K mainGlobals "max"=some none)
  (z_min:PySem.W.nsIn K mainGlobals "min"=some none)
  (z_abs:PySem.W.nsIn K mainGlobals "abs"=some none)
  (q_rows:CN K "MOST_ROWS" 150)
  (q_line:CN K "MOST_LINE" 9999)
  (q_mark:CN K "MOST_MARK" 99)
  (q_pushed:CN K "MOST_PUSHED" 1000000000)
  (q_name:CN K "LONGEST_NAME" 4)
  (q_kind:CN K "LONGEST_KIND" 8)
  (q_made:CN K "MOST_MADE" 1000000000000000000)
  (q_names:CN K "MOST_NAMES" 8)
  (q_steps:CN K "MOST_STEPS" 100000)
  (ta_sorts:KT K w "ARG_SORTS" z2V)
  (ta_tests:KT K w "ARG_TESTS" [("value",.ref f21),("name",.ref f17),("copied",.ref f22),("swapped",.ref f23),("mark",.ref f19),("none",.ref f24)])
  (ta_takes:KT K w "TAKES" (z0x zH))
  (ta_pushes:KT K w "PUSHES" (z0x zO))
  (ta_gput:KT K w "GUARDS_PUT" (z0x zU))
  (ta_reck:KT K w "RECKONINGS" [("add",.ref f60),("sub",.ref f61),("mul",.ref f62),("div",.ref f63),("rest",.ref f64)])
  (ta_deeds:KT K w "DEEDS" (ZU ⟨f80,f81,f82,f83,f84,f85,f86,f87,f89,f90,f91,f92,f93,f94,f95,f96⟩))
  (ua_jumping:KU K "JUMPING" (jumping.map V.str))
  (ua_leaving:KU K "LEAVING" (leaving.map V.str))
  (ua_never:KU K "NEVER_ON" (qp.map V.str))
  (ua_faulting:KU K "FAULTING" (faulting.map V.str))
  (ua_next:KU K "NEXT" [.str "next",.non])
  (ua_go:KU K "GO" [.str "go",.non])
  (ua_unset:KU K "UNSET" [.str "fault",.str "Unset"])
  (ua_on:KU K "ON" [.str "on"])
  (ua_first:PySem.W.nsIn K mainGlobals "FIRST_STATE"=some (some (.ref tfirst)))
  (ul_first:K.lookup tfirst=some ofirst)
  (uc_first:ofirst.cls=.type "tuple")
  (ud_first:ofirst.data=.seq ifirst nfirst)
  (uv_first:Vals [.int 0,.ref gfirst] ifirst.toList)
  (ul_gfirst:K.lookup gfirst=some ogfirst)
  (uc_gfirst:ogfirst.cls=.type "tuple")
  (ud_gfirst:ogfirst.data=.seq igfirst ngfirst)
  (uv_gfirst:Vals [] igfirst.toList)
  :∃fd:FuncData,(∀(s:Shared) (v:Value),BindsTo s fd ⟨[v],[]⟩ [("_law_script",v)])∧∀base:Heap,K.In base→base.Ns mainGlobals mg→FnOk l.prog w K mg base CX0 18 fa fd ["_law_script"] (z4f K):=by
 have e:=hfa.symm.trans (km X G l127.1)
 cases e
 have D {f:Addr} {x:Str} {n:Nat} (l:HD K f x n):zo K mg x (top n):=z9B X G l
 have DP:z4b K mg "_law_put" (top 107):=⟨f107,T107,oc107,kV107,dc107,pm107,cd107,ct107,od107,an107,sl107,to107,n107,km X G a107,k107,l107,c107,t107,s107⟩
 have GG:Glo mg:=⟨PySem.W.mg_none_of X G z_isinstance,PySem.W.mg_none_of X G z_int,PySem.W.mg_none_of X G z_bool,PySem.W.mg_none_of X G z_str,PySem.W.mg_none_of X G z_tuple,PySem.W.mg_none_of X G z_list,PySem.W.mg_none_of X G z_len,PySem.W.mg_none_of X G z_range,PySem.W.mg_none_of X G z_enumerate,JX X G q_rows,JX X G q_line,JX X G q_mark,JX X G q_pushed,JX X G q_name,JX X G q_kind,PySem.W.mg_none_of X G z_all,PySem.W.mg_none_of X G z_dict,PySem.W.mg_none_of X G z_max,PySem.W.mg_none_of X G z_min,PySem.W.mg_none_of X G z_abs,JX X G q_made,JX X G q_names,JX X G q_steps⟩
 obtain ⟨dtests,mtests,ktests⟩:=ktg X G ta_tests
 obtain ⟨dreck,mreck,kreck⟩:=ktg X G ta_reck
 have TT:Tabs w K mg:=⟨ktg X G ta_sorts,⟨dtests,f21,f17,f22,f23,f19,f24,mtests,ktests,km X G l21.1,km X G l17.1,km X G l22.1,km X G l23.1,km X G l19.1,km X G l24.1⟩⟩
 have T2:z5o w K mg:=⟨ktg X G ta_takes,ktg X G ta_pushes,ktg X G ta_gput,kug X G ua_jumping,kug X G ua_leaving,kug X G ua_never,kug X G ua_faulting,⟨tfirst,gfirst,km X G ua_first,z6y ul_first uc_first ud_first uv_first (by show 2≤1000;decide),z6y ul_gfirst uc_gfirst ud_gfirst uv_gfirst (by decide)⟩⟩
 have T3:z8Q w K mg ⟨f80,f81,f82,f83,f84,f85,f86,f87,f89,f90,f91,f92,f93,f94,f95,f96⟩:=⟨ktg X G ta_deeds,km X G l80.1,km X G l81.1,km X G l82.1,km X G l83.1,km X G l84.1,km X G l91.1,km X G l93.1,km X G l94.1,km X G l95.1,km X G l89.1,km X G l90.1,km X G l92.1,km X G l85.1,km X G l86.1,km X G l87.1,km X G l96.1⟩
 have TR:TabR w K mg:=⟨dreck,f60,f61,f62,f63,f64,mreck,kreck,km X G l60.1,km X G l61.1,km X G l62.1,km X G l63.1,km X G l64.1⟩
 have CC:Cons K mg:=⟨kug X G ua_next,kug X G ua_go,kug X G ua_unset,kug X G ua_on⟩
 have CL:Clss K mg CW CH:=⟨km X G aCW,km X G aCH,⟨⟨pgCW,hdCW,poCW,saCW⟩,nCWrows,nCWgoals,nCWhold,nCWwards,nCWpassed,nCWending,nCWhere⟩,⟨⟨pgCH,hdCH,poCH,saCH⟩,nCHheld,nCHknown,nCHsaid⟩,z8n mkCW aW0 iW0 lW0 kcCW,z8n mkCH aH0 iH0 lH0 kcCH,z0y mm1,z0y mm2,z0y mm3,z0y mm4,z0y mm5,z0y mm9,z0y mm11,z0y mm12⟩
 obtain ⟨_,_,_,an,_,kV,dc,pm,cd,ct,lk,c,k⟩:=l127
 refine ⟨PySem.W.fnOf "law" "law" (qz (top 127)) (zN (top 127)) (zd (top 127)) .none kV dc pm an cd ct,fun s v=>.of_eq rfl,fun base _ _=>?_⟩
 have nF {x:Str} {ps:List Str} {sp:Sp} {k:Nat} (F:FN l.prog w K mg base k x ps sp):=F
 have nM {C:Addr} {x:Str} {ps:List Str} {sp:Sp} {k:Nat} (F:MN l.prog w K mg base k C x ps sp):=F
 have nI {C:Addr} {ps:List Str} {sp:Sp} {k:Nat} (F:IN l.prog w K mg base k C ps sp):=F
 have num:=nF (z0D (D l14) GG)
 have qQ:=z3D (D l15) GG num
 have Z6:=nF (z2w (D l16) GG)
 have name:=z6T (D l17) GG Z6
 have kind:=z6Y (D l18) GG Z6
 have mark:=z6U (D l19) GG qQ
 have value:=z4R (D l20) GG qQ kind
 have pushed:=z3H (D l21) GG value
 have copied:=z3I (D l22) qQ
 have swapped:=z2v (D l23) qQ
 have none:=nF (z6R (D l24))
 have op:=nF (z9K (D l26) GG TT)
 have sort:=nF (z6J (D l27) TT)
 have fits:=z70 (D l28) TT sort pushed name copied swapped mark none
 have row:=z8r (D l29) GG op fits qQ
 have labs:=z6X (D l30) GG row
 have mfits:=z0C (D l31) sort
 have bad:=z8y (D l32) GG row labs mfits
 have has:=nF (z8x (D l33) GG)
 have check:=z59 (D l34) has bad
 have up:=up2 (nF (z9F (D l44)))
 have asked:=nF (z5a (D l45) T2)
 have lackV:=z52 (D l46) asked
 have Zp:=nF (z53 (D l47))
 have qB:=z2y (D l48) GG asked
 have moves:=z4Y (D l49) T2 lackV Zp
 have words:=z4P (D l50) GG lackV Zp qB moves
 have gb:=nF (z9R (D l51))
 have next:=z6S (D l52) up moves gb
 have sw:=z9H (D l53) up words
 have searched:=z1k (D l54) GG T2 labs sw next
 have states:=z3E (D l55) check searched
 have tru:=nF (z6F (D l58) GG)
 have names:=z4X (D l76) GG name value
 have chkn:=z77 (D l77) names
 have chks:=z76 (D l78) GG qQ
 have push:=nF (z6N (D l80) CL.cH CC)
 have load:=nF (z6W (D l81) CL.cH CC)
 have quick:=nF (z4W (D l82) CL.cH CC)
 have store:=nF (z4T (D l83) CL.cH CC)
 have clear:=nF (z58 (D l84) CL.cH CC)
 have drop:=nF (z71 (D l85) CL.cH CC)
 have copy:=nF (z75 (D l86) CL.cH CC)
 have swap:=nF (z6I (D l87) CL.cH CC)
 have tell:=nF (z6H (D l91) CL.cH CC)
 have ifs:=z9P (D l93) CL.cH CC tru
 have ors:=z9J (D l94) CL.cH CC tru
 have ret:=nF (z3G (D l95) CL.cH)
 have kr:=z54 (D l68) kind
 have rais:=z4V (D l96) CL.cH kr
 have same:=nF (z6K (D l59) GG)
 have sum:=nF (z8p (D l60))
 have diff:=nF (z73 (D l61))
 have prod:=nF (z6O (D l62))
 have quot:=nF (z6M (D l63))
 have rest:=nF (z6L (D l64))
 have jm:=z4Z (D l66) num same GG TR sum diff prod quot rest
 have QJ:=z50 (D l67) num tru
 have pof:=nF (z8t (D l88) CL.cH CC)
 have two:=z8o (D l89) CL.cH jm pof
 have one:=z8u (D l90) CL.cH QJ pof
 have jump:=nF (z6Z (C:=CH) (D l92) CC)
 have dorow:=z56 (D l98) T3 push load quick store clear tell ifs ors ret two one jump drop copy swap rais
 have ihold:=nI (z6B CL.iH CL.cH GG)
 have come:=nM (z8d CL.m1 CL.cW CL.cH GG)
 have fin:=nM (z9x (CH:=CH) CL.m2 CL.cW)
 have take:=z8b CL.m3 CL.cW CL.cH fin come
 have step:=z8c CL.m4 CL.cW fin take come dorow
 have place:=nM (z6u (CH:=CH) CL.m5 CL.cW)
 have told:=nM (z8a CL.m9 CL.cW CL.cH GG)
 have end_:=nM (z9y (CH:=CH) CL.m11 CL.cW)
 have len:=nM (z9w (CH:=CH) CL.m12 CL.cW GG)
 have iwalk:=z6A CL.iW CL.cW GG CC CL.mH states chkn labs ihold come
 have run:=z8q (D l100) CL.cW GG CL.mW iwalk chks place len step end_ told
 have town:=nF (z6G (D l102) GG)
 have draw:=nF (z72 (D l103) GG)
 have pick:=z6P (D l104) GG draw
 have whole:=nF (z4Q (D l105) GG)
 have const:=z57 (D l106) pick
 have put:=z8s (P:=l.prog) (w:=w) (base:=base) DP GG
 have mk:=nF (z9N (D l108) GG)
 have S:jW l.prog w K mg base:=⟨draw,pick,const,put.1,put.2,mk⟩
 have VV:=z0B (D l109) (D l110) (D l111) GG S 3
 have DD:=z1W (D l112) (D l113) (D l114) (D l115) S VV 3
 have lcode:=z2x (D l116) GG S VV DD
 have given:=z55 (D l117) S
 have ltrue:=z51 (D l118) whole
 have pair:=z6Q (D l119) GG whole
 have named:=nF (z9L (D l120))
 have lmade:=z9O (D l121) whole ltrue pair
 have goes:=z9Q (D l122) ltrue
 have lelse:=nF (z9S (D l124) GG)
 have passed:=nF (z9I (D l126))
 have lrun:=z6V (D l123) GG passed goes named lmade lelse
 have shown:=nF (z3F (D l125))
 exact z8w (z1U (st:=top 127) lk c k) GG town lcode given draw pick run lrun shown whole
theorem z7H {K:ky} {H:Hp} {a:Addr} {xs:List V} (hO:Only H) (h:SqL K H a xs):Scr K H a xs:=by
 rcases h with h | h
 ·rcases h with h | ⟨o,h⟩
  ·rcases hO a with z | ⟨o,ys,z⟩
   ·rw [z] at h;cases h
   ·rw [z] at h;cases h
  ·exact .inl ⟨o,h⟩
 ·exact .inr h
theorem walk {l:PySem.W.OpenLaw} {q:Program} {loose:List Str} {XP:(Str→Option Value)→Heap→Prop} {YP:World→Heap→Prop} {d:DefRec} {K:Params→ky} (hn:l.most=some 63) (hdf:d.params.defaults=[])
  (hY:∀(w:World) (h:Heap),YP w h→(K w.params).In h)
  (F:∀(w:World) (mg:Str→Option Value) (fa:Addr) (h:Heap),(K w.params).In h→h.Ns mainGlobals mg→mg d.name=some (.ref fa)→
   ∃fd:FuncData,(∀(s:Shared) (u:Value),BindsTo s fd ⟨[u],[]⟩ [("_law_script",u)])∧∀base:Heap,(K w.params).In base→base.Ns mainGlobals mg→FnOk l.prog w (K w.params) mg base CX0 18 fa fd ["_law_script"] (z4f (K w.params))):
  PySem.W.WalkO q loose XP YP l.row.toRowW d [] (fun f vs=>PySem.call f vs):=
 L2.z5T (n:=63) (k:=18) (x:="_law_script") (CX:=fun _=>CX0) (sp:=fun w=>z4f (K w.params)) hn (by decide) hdf ⟨rfl,by decide,by decide,rfl⟩ hY F (fun _ _ a ns hl hO hS=>⟨a,ns,rfl,z7H hO hS,hl,fun _=>rfl⟩) fun _ _ _ _ _ z=>z
end My
namespace PySem.W.Fast
def tw5105673956185107153:=Prop
def tw9296360433889664002:=Prop
def tw16968176118458789586:=Prop
def tw1454219785156648487:=Prop
def tw9497945907656264259:=Prop
def tw316514102143019080:=Prop
def tw1176975735165151067:=Prop
def tw9515242367644423802:=Prop
def tw13698048360955963301:=Prop
def tw10426125643436316091:=Prop
def tw906997338810173357:=Prop
def tw3528903376305711396:=Prop
def tw10199354318988768051:=Prop
def tw6397798872860733234:=Prop
def tw14442895186254868694:=Prop
def tw550859730669387710:=Prop
def tw4944538096920542639:=Prop
def tw13402640891724300857:=Prop
def tw14869557710840242666:=Prop
def tw8629223137936558018:=Prop
def tw7782566343926179497:=Prop
def tw17643754061406199020:=Prop
def tw1532905827683784112:=Prop
def tw4584130408075211490:=Prop
def tw8348929279939143713:=Prop
def tw11187973929812520656:=Prop
def tw8609586542792094281:=Prop
def tw3285859953031059425:=Prop
def tw11889039917686322224:=Prop
def tw15502550340765836045:=Prop
def tw5240190935848835389:=Prop
def tw10667965978278278033:=Prop
def tw9601000219436670146:=Prop
def tw1479287613276173130:=Prop
def tw15452572443179084588:=Prop
def tw16449049683821496617:=Prop
def tw9156678896304099913:=Prop
def tw15886500619415505586:=Prop
def tw3520363519792060846:=Prop
def tw531412535426860449:=Prop
def tw6486810437610700802:=Prop
def tw12048056826642495367:=Prop
def tw16075136791760097191:=Prop
def tw1099786997935966427:=Prop
def tw8428562227566387420:=Prop
def tw4419873286371483742:=Prop
def tw4491058772748593153:=Prop
def tw6494943896840636653:=Prop
def tw4135897612330176133:=Prop
def tw5671954072354940063:=Prop
def tw5856596252816178523:=Prop
def tw7503064181124827805:=Prop
def tw5055051069096525434:=Prop
def tw15221209806709932071:=Prop
def tw8393786181099783575:=Prop
def tw9774394379856643515:=Prop
def tw11047245738394521532:=Prop
def tw2257529940240947247:=Prop
def tw5891177449180782854:=Prop
def tw15402286563333779435:=Prop
def tw12533650973541477374:=Prop
def tw9840342860782594374:=Prop
def tw3101917741504857134:=Prop
def tw4359589691058243886:=Prop
def tw586414817643026165:=Prop
def tw4540636511946744494:=Prop
def tw18013738613805917565:=Prop
def tw1825691751249298209:=Prop
def tw17704188385166749297:=Prop
def tw7523194637212750777:=Prop
def tw4361700775904427359:=Prop
def tw509087118977565734:=Prop
def tw7498633149979677338:=Prop
def tw3092117133297227249:=Prop
def tw15335523830956845186:=Prop
def tw10299302589577801163:=Prop
def tw3470010718395615242:=Prop
def tw13060605142614655490:=Prop
def tw8135990882902831502:=Prop
def tw11902711398340702967:=Prop
def tw2354314689462661055:=Prop
def tw5111223187287932572:=Prop
def tw11483614926036402024:=Prop
def tw15515405784836723652:=Prop
def tw9563574807059059695:=Prop
def tw16320618697592262732:=Prop
def tw15348117752812372481:=Prop
def tw17624731456758155189:=Prop
def tw11519117686961666697:=Prop
def tw16231819489803491086:=Prop
def tw2947586027576077979:=Prop
def tw4157206338815638501:=Prop
def tw16932301668260661676:=Prop
def tw11630328935867623959:=Prop
def tw5587826856885255690:=Prop
def tw8879981774537637704:=Prop
def tw1349388230604553621:=Prop
def tw6822529714786804032:=Prop
def tw16915470645016011554:=Prop
def tw16472409268878238316:=Prop
def tw10700183255674453818:=Prop
def tw6436971069494195720:=Prop
def tw8164005668110941744:=Prop
def tw4961949625528378942:=Prop
def tw4770949888891906500:=Prop
def tw8981913638643619018:=Prop
def tw9605743605585339520:=Prop
def tw11832926541442806272:=Prop
def tw1462193419119380569:=Prop
def tw2340213770138097155:=Prop
def tw234749781942434899:=Prop
def tw18145098415874279589:=Prop
def tw5681066748535004433:=Prop
def tw529536973988259948:=Prop
def tw5958337225494893492:=Prop
def tw17541053060092493725:=Prop
def tw1191315250883676292:=Prop
def tw7875376050956498882:=Prop
def tw11370914782968760983:=Prop
def tw4504308265987017973:=Prop
def tw10335527622381539264:=Prop
def tw15861331538122591068:=Prop
def tw14501001857826371202:=Prop
def tw17925384258215065573:=Prop
def tw5030944203280556702:=Prop
def tw7328447075739424539:=Prop
def tw4216363875500904389:=Prop
def tw9435018134839604537:=Prop
def tw16539199913488330184:=Prop
def tw13517250619966689955:=Prop
def tw853867870972434600:=Prop
def tw12549480798472879603:=Prop
def tw16131593051203169754:=Prop
def tw8933567498414919238:=Prop
def tw7492102371377302679:=Prop
def tw8730455100892084961:=Prop
def tw5623994078177797194:=Prop
def tw12390559651112219368:=Prop
def tw8561930710830645613:=Prop
def tw8470894229461020840:=Prop
def tw5312734613080425828:=Prop
def tw10502693668590426699:=Prop
def tw10155365746132046468:=Prop
def tw9302024490495941678:=Prop
def tw2518989090492156107:=Prop
def tw12668811488487033962:=Prop
def tw17849293660312457548:=Prop
def tw16364373167927100580:=Prop
def tw35568349831873098:=Prop
def tw14613296582639449008:=Prop
def tw12043681936756833108:=Prop
def tw11779420592341035236:=Prop
def tw4097071322456330496:=Prop
def tw16745343075639119971:=Prop
def tw16749348522385944071:=Prop
def tw16792704761308240420:=Prop
def tw15365484819746726251:=Prop
def tw10561106145012299093:=Prop
def tw1987508650992133761:=Prop
def tw2208741240797131588:=Prop
def tw12027893231959348502:=Prop
def tw12996339429388188178:=Prop
def tw17768571080419900198:=Prop
def tw2283480497557504744:=Prop
def tw69414778264802052:=Prop
def tw416062468532545916:=Prop
def tw1577912010922610933:=Prop
def tw14285927966381778045:=Prop
def tw14170585217052205424:=Prop
def tw16550838102048051623:=Prop
def tw7537285074954141530:=Prop
def tw7215932318001415403:=Prop
def tw12300527617525357084:=Prop
def tw16048293560207931138:=Prop
def tw13049474527870934581:=Prop
def tw15904842870477748834:=Prop
def tw3479469073905811116:=Prop
def tw16950569574821323974:=Prop
def tw3172541193896328996:=Prop
def tw4843473975253519250:=Prop
def tw1420662732131515904:=Prop
def tw16172578528114110199:=Prop
def tw6012122021747098740:=Prop
def tw4598012029387006661:=Prop
def tw16459021049253542911:=Prop
def tw1541540961381408409:=Prop
def tw3307598998989760257:=Prop
def tw15248526436251307398:=Prop
def tw8789256864460932259:=Prop
def tw15622835117965313283:=Prop
def tw12673549619886724666:=Prop
def tw15705199264805783303:=Prop
def tw11849525312028181438:=Prop
def tw10785849952161257653:=Prop
def tw15943592676296772274:=Prop
def tw9488181201213887302:=Prop
def tw2536771547969941856:=Prop
def tw16900098544317168846:=Prop
def tw7317576523658780031:=Prop
def tw16317983856663788926:=Prop
def tw1655062426215196493:=Prop
def tw1191518686258777599:=Prop
def tw8621301723031713458:=Prop
def tw10635065575864489283:=Prop
def tw17312996333117680517:=Prop
def tw4248988804066548162:=Prop
def tw12068798485007620914:=Prop
def tw7363425622247834253:=Prop
def tw17305903175009340426:=Prop
def tw17287205074728517176:=Prop
def tw12941643214049860704:=Prop
def tw1794704788233111294:=Prop
def tw13056512690104125533:=Prop
def tw8934421753687110507:=Prop
def tw4537827082999213091:=Prop
def tw4847908771807827445:=Prop
def tw3638187344944282256:=Prop
def tw15655605073228999271:=Prop
def tw3094701115853657799:=Prop
def tw1944925098504758534:=Prop
def tw13197444509695450237:=Prop
def tw16279701975793424917:=Prop
def tw4179031660912777645:=Prop
def tw1481561522626788794:=Prop
def tw9597476570122768466:=Prop
def tw6292166794754334899:=Prop
def tw371976131940695897:=Prop
def tw305048472116853797:=Prop
def tw3857615796733700780:=Prop
def tw6586766797330607371:=Prop
def tw15508019666092448443:=Prop
def tw804092199982636349:=Prop
def tw2944391684731814369:=Prop
def tw14326666937008165477:=Prop
def tw13829591483307370896:=Prop
def tw2133357390318303931:=Prop
def tw17969941481158815411:=Prop
def tw8185526577758514290:=Prop
def tw16469568281967520401:=Prop
def tw15213048550514571353:=Prop
def tw7523960725538707817:=Prop
def tw2133271169735087666:=Prop
def tw2451202640524662777:=Prop
def tw17334881123488906936:=Prop
def tw17427895641331663283:=Prop
def tw4033379813872489195:=Prop
def tw3166399620581321579:=Prop
def tw8866799916698666265:=Prop
def tw14712817762504950641:=Prop
def tw8903238766108814736:=Prop
def tw8181798732573668865:=Prop
def tw5799554998426481285:=Prop
def tw539595736760451978:=Prop
def tw16149030986926176842:=Prop
def tw11636702290074901078:=Prop
def tw7610715734942229976:=Prop
def tw9490788887817741740:=Prop
def tw1672326540721132644:=Prop
def tw14150022099575242417:=Prop
def tw17186741509365979835:=Prop
def tw4290539585013091505:=Prop
def tw13478877428745155630:=Prop
def tw7247118927824095897:=Prop
def tw1820406046763328738:=Prop
def tw8436589768386056944:=Prop
def tw18192907663531859256:=Prop
def tw10137764753370060610:=Prop
def tw6200747210346194187:=Prop
def tw17682402426280554898:=Prop
def tw6708892414054319099:=Prop
def tw6807009207803952845:=Prop
def tw13319170342346483122:=Prop
def tw15382044423783582273:=Prop
def tw1147522009701800784:=Prop
def tw12565002596728077416:=Prop
def tw182668025278835697:=Prop
def tw9192171586001469603:=Prop
def tw9359623039629485964:=Prop
def tw9455475090630465045:=Prop
def tw2766794811542550618:=Prop
def tw14023712959475348811:=Prop
def tw7825248364748044718:=Prop
def tw358491328311820773:=Prop
def tw1880258362356491002:=Prop
def tw4402504706719581215:=Prop
def tw17845374550828520631:=Prop
def tw17619882183920601743:=Prop
def tw11392713097197983755:=Prop
def tw16268753175028127129:=Prop
def tw14439765378166140033:=Prop
def tw15646415040929263001:=Prop
def tw8454840944936950519:=Prop
def tw18221076124747093969:=Prop
def tw10752687858943698738:=Prop
def tw9629638568524466495:=Prop
def tw16629561534657121264:=Prop
def tw17601101962401091345:=Prop
def tw13884827974113296321:=Prop
def tw14864845329073380503:=Prop
def tw7586693836618795562:=Prop
def tw4074981978428682757:=Prop
def tw12059592832596718669:=Prop
def tw5420646709462680085:=Prop
def tw1678685284944356640:=Prop
def tw7249538410202319208:=Prop
def tw13624067223694474022:=Prop
def tw16118103595353321548:=Prop
def tw14395535763308203431:=Prop
def tw8556428379479075427:=Prop
def tw11712190458185945011:=Prop
def tw5093760422677637020:=Prop
def tw7394473655412076685:=Prop
def tw11905978938385298303:=Prop
def tw12976177241038019767:=Prop
def tw10762484250532422250:=Prop
def tw13231743877010270464:=Prop
def tw14566440943485919492:=Prop
def tw14374603453287560736:=Prop
def tw15734334760007649912:=Prop
def tw15069716523494295500:=Prop
def tw9183887234732007851:=Prop
def tw8764891944006921790:=Prop
def tw14678158920106854735:=Prop
def tw14790834132378566595:=Prop
def tw17798109276220946204:=Prop
def tw5089109622011424599:=Prop
def tw8839083969933755074:=Prop
def tw6288245671383669902:=Prop
def tw13148303815899264127:=Prop
def tw5047655472420816975:=Prop
def tw8369868683130302868:=Prop
def tw17546005709695080877:=Prop
def tw10845176269288740530:=Prop
def tw11764051201032110199:=Prop
def tw5488966160659634681:=Prop
def tw2294854397974045510:=Prop
def tw12221415409051222339:=Prop
def tw13260146092877858203:=Prop
def tw9685044298169568939:=Prop
def tw17714833071000019117:=Prop
def tw264859973967348148:=Prop
def tw13101539525013915119:=Prop
def tw6664951462986138201:=Prop
def tw15314323031021625729:=Prop
def tw12532165626772418067:=Prop
def tw278057108609374583:=Prop
def tw6638926791290424541:=Prop
def tw3241244739717862871:=Prop
def tw11769617611247221923:=Prop
def tw11177363367855638175:=Prop
def tw12738381933769850461:=Prop
def tw15679247252792206210:=Prop
def tw454280894128670149:=Prop
def tw8160871880118814707:=Prop
def tw6951939212644042833:=Prop
def tw7805864855692585105:=Prop
def tw10738022691011693995:=Prop
def tw17100184641858439841:=Prop
def tw15632388027458123374:=Prop
def tw7799292279061216081:=Prop
def tw5613845454599061817:=Prop
def tw7160180452043601882:=Prop
def tw14827384380277173613:=Prop
def tw15431134087688302020:=Prop
def tw9897558803702562313:=Prop
def tw12978678129208030876:=Prop
def tw12897510573589207426:=Prop
def tw8008005557923197168:=Prop
def tw9508736203920968164:=Prop
def tw10543178825980762907:=Prop
def tw5759927347364260171:=Prop
def tw7900839787485558254:=Prop
def tw10884089432341657690:=Prop
def tw6585068141940680455:=Prop
def tw16878425626841360969:=Prop
def tw10879198800498315992:=Prop
def tw899467453790264098:=Prop
def tw15633060100805231896:=Prop
def tw6582134788679801411:=Prop
def tw4952506757814975653:=Prop
def tw17548501875881557423:=Prop
def tw5036445103931068615:=Prop
def tw49257221699923509:=Prop
def tw10780761586765376359:=Prop
def tw11732214188671553305:=Prop
def tw603919011924581760:=Prop
def tw13792483299354683862:=Prop
def tw17938573788391313690:=Prop
def tw4954584648838934644:=Prop
def tw3482820431698744051:=Prop
def tw6511239469406747073:=Prop
def tw1313047135445303594:=Prop
def tw4198713400997701141:=Prop
def tw6737687440995333003:=Prop
def tw11973505968982382900:=Prop
def tw11289143093466461953:=Prop
def tw2478928736998500339:=Prop
def tw16919330064296535691:=Prop
def tw12725296767022386299:=Prop
def tw13989995598129119793:=Prop
def tw9516800180062724845:=Prop
def tw1712973634487312807:=Prop
def tw2852278927748849453:=Prop
def tw425938344300624212:=Prop
def tw5427499738942290107:=Prop
def tw10390157646234782899:=Prop
def tw10042499479572932358:=Prop
def tw1138913362466708187:=Prop
def tw6731276024794131016:=Prop
def tw14010756937746569603:=Prop
def tw4626940704210403192:=Prop
def tw1873328127978622562:=Prop
def tw13305670439411429421:=Prop
def tw14015890951069844909:=Prop
def tw10114559176044890587:=Prop
def tw7254989234349611870:=Prop
def tw17996964024917085871:=Prop
def tw15726315211890062517:=Prop
def tw6396003848318028651:=Prop
def tw3992908553847606798:=Prop
def tw7042659310547366237:=Prop
def tw10015853644003576960:=Prop
def tw13078823862939028812:=Prop
def tw931956834028986255:=Prop
def tw17857563459279650048:=Prop
def tw9484893572878908112:=Prop
def tw13236685850781773769:=Prop
def tw9053782029162397877:=Prop
def tw14729990847023682631:=Prop
def tw8864380892348041232:=Prop
def tw1322031339247656150:=Prop
def tw7388713464098733815:=Prop
def tw7499281151589028774:=Prop
def tw12434779806091606683:=Prop
def tw7309090249957014933:=Prop
def tw12497209384629237934:=Prop
def tw9791681398072291233:=Prop
def tw1201823643857629683:=Prop
def tw13673065589402620214:=Prop
def tw15740581520725410121:=Prop
def tw4268201051430804902:=Prop
def tw3357109249204774647:=Prop
def tw10816505815932434291:=Prop
def tw14858129598448742980:=Prop
def tw13218621648322568166:=Prop
def tw14495299557687959983:=Prop
def tw2644793928968540899:=Prop
def tw5353813085845620550:=Prop
def tw5107255825281412738:=Prop
def tw6192104577313164617:=Prop
def tw12184380411685104690:=Prop
def tw4475145619620083286:=Prop
def tw9001960471440542311:=Prop
def tw11567290217489295758:=Prop
def tw3507429394446682220:=Prop
def tw9308127886482624579:=Prop
def tw2348382526199129394:=Prop
def tw10693841506766600124:=Prop
def tw3555141088238359772:=Prop
def tw13481268755573549168:=Prop
def tw5485572742587201778:=Prop
def tw11081772624950168284:=Prop
def tw17093224777342109595:=Prop
def tw14255533807856875452:=Prop
def tw10042016428604499616:=Prop
def tw8237626310708396552:=Prop
def tw4211700434839312001:=Prop
def tw12004313012329915033:=Prop
def tw17837415989878807268:=Prop
def tw9585978970863474492:=Prop
def tw5272677748111154927:=Prop
def tw10987736105736012968:=Prop
def tw4982327473614321822:=Prop
def tw4674102799890499726:=Prop
def tw12456865456253345569:=Prop
def tw14207915657524821833:=Prop
def tw5286587840749011222:=Prop
def tw6183355688225794848:=Prop
def tw9218752888244210615:=Prop
def tw6415066574636824545:=Prop
def tw5552461122284547459:=Prop
def tw15140938179311494802:=Prop
def tw6315216371427503177:=Prop
def tw5260856337621036202:=Prop
def tw17545862747986772839:=Prop
def tw6390373612929051886:=Prop
def tw12132578266924881344:=Prop
def tw9305391788130653963:=Prop
def tw9238240524945035248:=Prop
def tw11637195238256488622:=Prop
def tw8824595633291508535:=Prop
def tw1611551182742943237:=Prop
def tw1877735476730380715:=Prop
def tw14624137194681822032:=Prop
def tw9308725717764142674:=Prop
def tw15568136977402293060:=Prop
def tw8954067861541931720:=Prop
def tw14199714164133228370:=Prop
def tw4449657751673405704:=Prop
def tw5764117369366255280:=Prop
def tw726985913927333873:=Prop
def tw15718574390098580149:=Prop
def tw2385268686561707046:=Prop
def tw2335157872551914648:=Prop
def tw2927799364441409784:=Prop
def tw729466047920990731:=Prop
def tw17513604867990543079:=Prop
def tw9122274009815981030:=Prop
def tw2463093255817348941:=Prop
def tw969648714781328785:=Prop
def tw347805415268056836:=Prop
def tw8605165415444627158:=Prop
def tw13553050674002434610:=Prop
def tw1840282097412291383:=Prop
def tw14987661418082201831:=Prop
def tw7097827964152542560:=Prop
def tw1722802803701587481:=Prop
def tw3382304716988349589:=Prop
def tw15632992782082381434:=Prop
def tw15934030157929616494:=Prop
def tw2754692670688779762:=Prop
def tw7279124119864403853:=Prop
def tw712222309637291157:=Prop
def tw3450989490954552525:=Prop
def tw7889519178737539250:=Prop
def tw8126552424372712672:=Prop
def tw16494811166784360161:=Prop
def tw6410466703314355012:=Prop
def tw5661640270340304354:=Prop
def tw4769901133546641911:=Prop
def tw17094580856887593759:=Prop
def tw3904583755211930517:=Prop
def tw17119971604622065936:=Prop
def tw838488071084229480:=Prop
def tw14583267516977433036:=Prop
def tw14788362278542820120:=Prop
def tw9316670756482807701:=Prop
def tw14124935244785052151:=Prop
def tw2648174423076098445:=Prop
def tw5266450434754204200:=Prop
def tw10069975712529536831:=Prop
def tw7317234293075219:=Prop
def tw4425046354534653865:=Prop
def tw3812851720364625851:=Prop
def tw3373145609055282853:=Prop
def tw9832553117377153458:=Prop
def tw18431155831084640082:=Prop
def tw2912592304959361012:=Prop
def tw11069628954808310989:=Prop
def tw3892864765347196996:=Prop
def tw7942853410682446962:=Prop
def tw2124036631830673892:=Prop
def tw17698735102306075112:=Prop
def tw317932667124481529:=Prop
def tw5635732757303927080:=Prop
def tw15078095837771203109:=Prop
def tw11118301316682269745:=Prop
def tw11188117447681078326:=Prop
def tw16186510892431351131:=Prop
def tw4227517698962585424:=Prop
def tw14749253800190834908:=Prop
def tw6215920317759002765:=Prop
def tw519266280920424228:=Prop
def tw9895319725981956093:=Prop
def tw16296626546367184724:=Prop
def tw12243597962237336636:=Prop
def tw9466130334346563993:=Prop
def tw11763852733077360975:=Prop
def tw143782271200020318:=Prop
def tw15977843376605620593:=Prop
def tw8526028360262338249:=Prop
def tw10052001805573714066:=Prop
def tw17398146341500462573:=Prop
def tw1877378965866140348:=Prop
def tw12694589447371642155:=Prop
def tw17882641709403210578:=Prop
def tw4153491320931672185:=Prop
def tw15545184769064153574:=Prop
def tw4327481325072456391:=Prop
def tw5565376262109202332:=Prop
def tw4047598183854627951:=Prop
def tw11165118516710488114:=Prop
def tw10267551232223586437:=Prop
def tw16396790404030501481:=Prop
def tw12067549021546063074:=Prop
def tw15755044616229629136:=Prop
def tw14996608434851025094:=Prop
def tw2857234818492195956:=Prop
def tw17401831432661337422:=Prop
def tw1647960591809683682:=Prop
def tw2791417458454038152:=Prop
def tw17878424488110687958:=Prop
def tw14267268813261638861:=Prop
def tw12662363693902343356:=Prop
def tw5835942142707902020:=Prop
def tw10015450608781386451:=Prop
def tw4185518321428705831:=Prop
def tw3345597093286824917:=Prop
def tw5680315236850328200:=Prop
def tw14706185440976847018:=Prop
def tw8174591469460913490:=Prop
def tw15639028444304104736:=Prop
def tw16721136315377152689:=Prop
def tw15223397061033166810:=Prop
def tw763151578990004582:=Prop
def tw4543556514994620149:=Prop
def tw5916140570258018564:=Prop
def tw8159976661246289121:=Prop
def tw7340446101256811000:=Prop
def tw3121739546393284973:=Prop
def tw14323227155912201964:=Prop
def tw14734032772098568817:=Prop
def tw3007367435729401828:=Prop
def tw12815670308626618822:=Prop
def tw8553059368797141306:=Prop
def tw14552297945886922796:=Prop
def tw5769997320742902227:=Prop
def tw15666224950229401414:=Prop
def tw744308932230929381:=Prop
def tw16266442582153907279:=Prop
def tw2962324470309885386:=Prop
def tw2747774915501398362:=Prop
def tw13669522585143040522:=Prop
def tw11320351676317602388:=Prop
def tw11329467641453361123:=Prop
def tw7020395562169822392:=Prop
def tw12616699830948850482:=Prop
def tw13774056567397157767:=Prop
def tw13252108370143244208:=Prop
def tw2424774302306548116:=Prop
def tw5541168653056121806:=Prop
def tw6793172497655745189:=Prop
def tw6905212232875527693:=Prop
def tw13952158723898717365:=Prop
def tw18012574323051992567:=Prop
def tw5310652868755799522:=Prop
def tw8079883169468671255:=Prop
def tw7524379617451308511:=Prop
def tw12392129776423771058:=Prop
def tw6760614523370422531:=Prop
def tw15722476443830486393:=Prop
def tw6880125886219600808:=Prop
def tw7420531298404749032:=Prop
def tw4968929673044707356:=Prop
def tw13887902116395311400:=Prop
def tw12712400820596877648:=Prop
def tw10846345724684618374:=Prop
def tw13055661147411815287:=Prop
def tw3934833063311361131:=Prop
def tw14878676915296349670:=Prop
def tw75764501244781629:=Prop
def tw7076977106511060911:=Prop
def tw274189353798237994:=Prop
def tw2873748437651673626:=Prop
def tw10896712999787139778:=Prop
def tw16655083059833703075:=Prop
def tw3664731896753646195:=Prop
def tw6771182271545134960:=Prop
def tw14029171239946634462:=Prop
def tw5315833730557488597:=Prop
def tw8891557043749499067:=Prop
def tw6999419289813526679:=Prop
def tw4340971767527515617:=Prop
def tw644751248652905101:=Prop
def tw10497823618577955822:=Prop
def tw13508602156133886167:=Prop
def tw2680141511932349947:=Prop
def tw10733525418748422364:=Prop
def tw897888412878121761:=Prop
def tw7933409788576728531:=Prop
def tw10497042534595344180:=Prop
def tw15205371639996969591:=Prop
def tw14279065940840616024:=Prop
def tw4038909232737020655:=Prop
def tw10131873952172028942:=Prop
def tw18329075359065952542:=Prop
def tw7950223703418521501:=Prop
def tw16463793508043411602:=Prop
def tw17285559866762418615:=Prop
def tw4888033052430993751:=Prop
def tw11796517215010684692:=Prop
def tw5847202018973711932:=Prop
def tw3808584094389355786:=Prop
def tw15261137711255440680:=Prop
def tw10800367221633172730:=Prop
def tw8860130008918733972:=Prop
def tw3190473778026329144:=Prop
def tw4177351759533223642:=Prop
def tw2202087279664922802:=Prop
def tw4773397407553703792:=Prop
def tw4799189423077775474:=Prop
def tw16699019767340423185:=Prop
def tw17456480263006714056:=Prop
def tw14763428746477059428:=Prop
def tw5363195699714531557:=Prop
def tw1567247161763788871:=Prop
def tw17666627728419048244:=Prop
def tw14335355579717207800:=Prop
def tw13853384548814360862:=Prop
def tw7894344252036594922:=Prop
def tw5845538515087863352:=Prop
def tw7090585071989052306:=Prop
def tw438459731153329746:=Prop
def tw8060744490709563079:=Prop
def tw11224361182253327997:=Prop
def tw12111957463147405440:=Prop
def tw18146824316399097613:=Prop
def tw11896190001472655623:=Prop
def tw15888159438429106303:=Prop
def tw14873902065993744872:=Prop
def tw4188684199736651882:=Prop
def tw1826987945724244988:=Prop
def tw7767600555257307780:=Prop
def tw17338234738716814015:=Prop
def tw12325562205625792791:=Prop
def tw704147369595269066:=Prop
def tw6623812351622530092:=Prop
def tw1998032249293215463:=Prop
def tw7347403583357514119:=Prop
def tw14113110954290816071:=Prop
def tw10448383514627668160:=Prop
def tw9161490523856799436:=Prop
def tw4399127671673457293:=Prop
def tw4880262508069084:=Prop
def tw6760056911573607715:=Prop
def tw6089177832033215386:=Prop
def tw10925597439039874015:=Prop
def tw11300376045408061371:=Prop
def tw3369663099759083609:=Prop
def tw18277388166739348960:=Prop
def tw6429450841261186155:=Prop
def tw3133745999044795564:=Prop
def tw5232580246900481102:=Prop
def tw9751423446361702133:=Prop
def tw671769174312181376:=Prop
def tw17570062618377817894:=Prop
def tw3543174748483581286:=Prop
def tw8369655760788974282:=Prop
def tw10232147439284725336:=Prop
def tw670427922429333600:=Prop
def tw2374466318677132124:=Prop
def tw12319733152821033628:=Prop
def tw18443007809517869832:=Prop
def tw10354477200866600673:=Prop
def tw7395645310213146516:=Prop
def tw3302770140995672700:=Prop
def tw12079628635447562283:=Prop
def tw10661956449011590994:=Prop
def tw3048301304931576756:=Prop
def tw714049069090440106:=Prop
def tw6252695792229605141:=Prop
def tw5802571108899374253:=Prop
def tw12487779173672901959:=Prop
def tw10393078302967963895:=Prop
def tw7007158731953197150:=Prop
def tw8478550097109946567:=Prop
def tw6205024481829086969:=Prop
def tw16884622931589843948:=Prop
def tw4034687210265294523:=Prop
def tw5015507407206683207:=Prop
def tw16408362238061914836:=Prop
def tw10412780308102683651:=Prop
def tw1817805791611690161:=Prop
def tw14064692534454641163:=Prop
def tw15155859288707382567:=Prop
def tw5425125011635884837:=Prop
def tw11347631108264317165:=Prop
def tw9513619709740374535:=Prop
def tw10728712052571211117:=Prop
def tw11522840503767320408:=Prop
def tw16061800364364160699:=Prop
def tw5805183375971660199:=Prop
def tw247440359557559055:=Prop
def tw17590088832654516399:=Prop
def tw4842887358765978389:=Prop
def tw14398365135244066966:=Prop
def tw6606014719576569030:=Prop
def tw12378859094494468809:=Prop
def tw6999941293234460784:=Prop
def tw10241233070082051121:=Prop
def tw10285885531015897042:=Prop
def tw3321576952164483024:=Prop
def tw8249347019533418915:=Prop
def tw14112606434462084385:=Prop
def tw14593252181223967585:=Prop
def tw15988265368706215130:=Prop
def tw1173414789623836638:=Prop
def tw3903891618737965568:=Prop
def tw12319047049370110589:=Prop
def tw7158441374720773216:=Prop
def tw7834740603555865465:=Prop
def tw133755455108545178:=Prop
def tw16286715671046524454:=Prop
def tw12514039047250868702:=Prop
def tw6788773261714906821:=Prop
def tw5609530884314319229:=Prop
def tw7945405709010385892:=Prop
def tw12694112234171929671:=Prop
def tw6147076586173037292:=Prop
def tw7717702957765121957:=Prop
def tw13350131943787299761:=Prop
def tw1354003750591732747:=Prop
def tw14731147920152588799:=Prop
def tw11887224372650548316:=Prop
def tw8078195926588453703:=Prop
def tw5674458297940323589:=Prop
def tw3822784309164373692:=Prop
def tw12523711969749109062:=Prop
def tw17132446947904718585:=Prop
def tw11269825475406603969:=Prop
def tw11389117665151840592:=Prop
def tw12036168689724814288:=Prop
def tw10184835648761350555:=Prop
def tw11970942820725077907:=Prop
def tw8175973581910071180:=Prop
def tw1292346606274980823:=Prop
def tw16717272659965454103:=Prop
def tw14245618210516037357:=Prop
def tw6381902497316938245:=Prop
def tw1906461178052628661:=Prop
def tw6784790241324674965:=Prop
def tw2456577590951144490:=Prop
def tw8697654515486363317:=Prop
def tw8848340392469278725:=Prop
def tw8877373362634485534:=Prop
def tw12661032092557703082:=Prop
def tw12436235973947379448:=Prop
def tw4636031889025220839:=Prop
def tw18152145473544675463:=Prop
def tw3981585000120243262:=Prop
def tw4872952286622431662:=Prop
def tw12737541344736672974:=Prop
def tw6595744693926533701:=Prop
def tw5399014298235654608:=Prop
def tw13949155002146243131:=Prop
def tw4589182232624314844:=Prop
def tw14949513074056673275:=Prop
def tw15755219311246346914:=Prop
def tw16970792351503237766:=Prop
def tw13708279966662545973:=Prop
def tw16372584530490662585:=Prop
def tw1620389302784492585:=Prop
def tw10149639745659574222:=Prop
def tw13323373534744806615:=Prop
def tw17129413109452088230:=Prop
def tw10678327339628911315:=Prop
def tw15854262060937163188:=Prop
def tw17960848765466677729:=Prop
def tw1096354831752916523:=Prop
def tw7910172739516966087:=Prop
def tw7263363503728760936:=Prop
def tw1696428482216354740:=Prop
def tw17802128708061929859:=Prop
def tw9835382159548102362:=Prop
def tw19751972998642308:=Prop
def tw17215249892471440014:=Prop
def tw5185991453625059868:=Prop
def tw5713610079918043996:=Prop
def tw14650769484350525481:=Prop
def tw592193406742131962:=Prop
def tw18042889414512086050:=Prop
def tw11982959770356382578:=Prop
def tw1833547357909804662:=Prop
def tw3016012700857477809:=Prop
def tw3942624392001961204:=Prop
def tw12328853128172473661:=Prop
def tw2450569374399577549:=Prop
def tw11526203479690249398:=Prop
def tw16338214745046372782:=Prop
def tw6662249597110656733:=Prop
def tw1632905160279749488:=Prop
def tw5921587261177403197:=Prop
def tw11380775435792004171:=Prop
def tw11654023200298843171:=Prop
def tw16803143847538834185:=Prop
def tw11843833423457600547:=Prop
def tw15719748902143223830:=Prop
def tw16504757533647375273:=Prop
end PySem.W.Fast
open PySem PySem.W PyProof.Rows
set_option maxRecDepth 100000
set_option maxHeartbeats 0
open_top head for PySem.Challenge.rw_codemill_k10_whole_runs
theorem PySem.Challenge.cw_codemill_k10_whole_runs_holds : PySem.Challenge.rw_codemill_k10_whole_runs.Holds :=
 head (by
 k_fill
 refine My.walk (l:=PySem.Challenge.rw_codemill_k10_whole_runs) rfl rfl (fun w h Y=>PySem.W.kIn_of Y) ?F
 case F=>
  intro w mg fa h KX G hmg
  refine' My.all_mk KX G hmg ?_ ?_ ?_ ?_ ?_ ?_ ?_ ?_ ?_ ?_ ?_ ?_ ?_ ?_ ?_ ?_ ?_ ?_ ?_ ?_ ?_ ?_ ?_ ?_ ?_ ?_ ?_ ?_ ?_ ?_ ?_ ?_ ?_ ?_ ?_ ?_ ?_ ?_ ?_ ?_ ?_ ?_ ?_ ?_ ?_ ?_ ?_ ?_ ?_ ?_ ?_ ?_ ?_ ?_ ?_ ?_ ?_ ?_ ?_ ?_ ?_ ?_ ?_ ?_ ?_ ?_ ?_ ?_ ?_ ?_ ?_ ?_ ?_ ?_ ?_ ?_ ?_ ?_ ?_ ?_ ?_ ?_ ?_ ?_ ?_ ?_ ?_ ?_ ?_ ?_ ?_ ?_ ?_ ?_ ?_ ?_ ?_ ?_ ?_ ?_ ?_ ?_ ?_ ?_ ?_ ?_ ?_ ?_ ?_ ?_ ?_ ?_ ?_ ?_ ?_ ?_ ?_ ?_ ?_ ?_ ?_ ?_ ?_ ?_ ?_ ?_ ?_ ?_ ?_ ?_ ?_ ?_ ?_ ?_ ?_ ?_ ?_ ?_ ?_ ?_ ?_ ?_ ?_ ?_ ?_ ?_ ?_ ?_ ?_ ?_ ?_ ?_ ?_ ?_ ?_ ?_ ?_ ?_ ?_ ?_ ?_ ?_ ?_ ?_ ?_ ?_ ?_ ?_ ?_ ?_ ?_ ?_ ?_ ?_ ?_ ?_ ?_ ?_ ?_ ?_
  any_goals exact My.hdm (by k_is) (by k_is) (by k_is) (by k_is)
  any_goals exact My.cnm (by k_is) (by first | exact rfl | exact ⟨_,rfl⟩)
  any_goals exact My.ktm (by k_is) (by k_is) (by k_keys) (by first | exact rfl | decide) (by repeat (first | exact .nil | refine .cons ⟨⟨_,rfl⟩,(by first | exact rfl | exact ⟨_,rfl⟩)⟩ ?_))
  any_goals exact My.kum (by k_is) (by k_is) rfl rfl (by repeat (first | exact .nil | refine .cons (by first | exact rfl | exact ⟨_,rfl⟩) ?_)) (by decide)
  any_goals k_is
  any_goals exact My.mdm (by k_is) (by k_is) (My.lk_mk (by k_is) (by k_is) (by k_is))
  any_goals exact My.lk_mk (by k_is) (by k_is) (by k_is)
  any_goals first | exact rfl | exact ⟨_,rfl⟩ | k_keys | decide
  any_goals (repeat (first | exact .nil | refine .cons (by first | exact rfl | exact ⟨_,rfl⟩) ?_))
  any_goals k_is
  any_goals exact rfl)
