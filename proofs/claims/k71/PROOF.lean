import PyProof.Rows.All
import Wide.All
import OpenK.AllK
import Wide.FinOn
import Lean
import PyProof.EqAt
import PyProof.EqKinds
import PyProof.TupleCall
import PyProof.DictItems
import PyProof.Rows.SortShell
import PyProof.ListRange
import PyProof.ZipIter
import PyProof.StationsW
import OpenK.KOwn
import PyProof.NsDelKeeps
import PyProof.TupleOfSeq
import KE.KDictOf
import PyProof.Rows.TupDisplay
import PyProof.DictIter
import PyProof.StrWalks
import PyProof.RangeFor
import PyProof.AttrMissSeq
import KE.KDictList
import PyProof.Rows.SetFrom
import PyProof.Rows.SortStr
import PyProof.CollectStr
import PyProof.Rows.SortWalk
import KE.KIntText
import PyProof.StrBlock2
import PySem.Challenge.RW_codemill_k71_whole_least_units
local macro_rules | `(tactic| trivial) => `(tactic| (dsimp only; decide +kernel))
local macro_rules | `(tactic| trivial) => `(tactic| decide +kernel)
abbrev ke:=@Bool.false_ne_true
abbrev kf:=@Option.bind_some
abbrev kg:=@Nat.le_refl
abbrev kh:=@List.getElem?_eq_some_iff
abbrev ki:=@decide_eq_false
abbrev kj:=@decide_eq_true
abbrev kl:=@List.length_map
abbrev km:=@List.length_append
abbrev kn:=@PySem.W.mg_of
abbrev ko:=@List.mem_singleton
abbrev kq:=@List.not_mem_nil
abbrev kr:=@Nat.le_trans
abbrev ku:=PySem.W.Frag
abbrev ky:=@if_neg
abbrev kz:=@if_pos
abbrev kC:=@Option.some.inj
abbrev kD:=@of_decide_eq_true
abbrev kE:=@List.mem_cons
abbrev kF:=@List.size_toArray
abbrev kG:=@List.length_singleton
abbrev kH:=@List.mem_of_getElem?
abbrev kI:=@List.dropLast_concat
abbrev kK:=@List.map_append
abbrev kL:=@List.getElem?_eq_getElem
abbrev kM:=@Nat.lt_of_lt_of_le
abbrev kN:=@List.mem_append_right
abbrev kO:=@List.mem_append_left
abbrev kP:=@List.length_cons
abbrev kQ:=@List.mem_cons_self
abbrev kR:=@List.mem_cons_of_mem
abbrev kS:=@List.mem_append
abbrev kU:=@List.map_cons
abbrev kW:=@List.append_nil
abbrev kX:=@List.append_assoc
abbrev kY:=@Nat.le_of_eq
abbrev kZ:=@Int.eq_ofNat_of_zero_le
abbrev ya:=@Int.toNat_natCast
abbrev yb:=@Nat.lt_succ_self
abbrev yc:=@beq_self_eq_true
abbrev yd:=@Bool.and_eq_true
abbrev ye:=@decide_eq_true_eq
abbrev yf:=@List.mem_map
abbrev yg:=@List.getElem?_append_left
abbrev yh:=@List.getElem?_append_right
set_option genInjectivity true
set_option genSizeOf false
set_option Elab.async false
set_option linter.all false
set_option maxRecDepth 100000
def aR (h:True=True:=by rfl) (k:(0:Nat)=0:=by decide):True:=trivial
section
open PySem PySem.Spec PyProof.Rows
def vW {p:Prop} (h:p:=by trivial):p:=h
abbrev va:=@wpAny_bind
abbrev vb:=@Heap.get?_push_of_some
abbrev vc:=@PySem.mem_of_lookup
abbrev vd:=@absurd
abbrev ve:=@wpAny_pure
abbrev vf:=@Heap.lt_size
abbrev vg:=@Heap.get?_push_size
abbrev vh:=@List.getElem?_map
abbrev vi:=@Prod.mk.injEq
abbrev vj:=@Nat.zero_le
abbrev vk:=@List.length_replicate
abbrev vm:=@PySem.W.mg_none_of
abbrev vn:=@Nat.ne_of_lt
abbrev vo:=@PassesOwn.never
abbrev vp:=@List.getElem?_eq_none
abbrev vq:=@List.length_take
abbrev vt:=@List.getElem?_replicate
abbrev vw:=@List.getElem?_set_ne
abbrev vy:=@PySem.W.kia_one
abbrev vz:=@List.getElem?_set_self
abbrev vA:=@List.getElem?_set
abbrev vB:=@Bool.false_and
abbrev vC:=@List.take_length
abbrev vD:=@Nat.lt_irrefl
abbrev vE:=@wpAny_truthy_bool
abbrev vF:=@Calls.callWith_builtin
abbrev vG:=@List.replicate_succ
abbrev vH:=@List.length_set
abbrev vI:=@congrArg
abbrev vJ:=@wpAny_newObj_type
abbrev vK:=@PyProof.Rows.callWith_type1
abbrev vL:=@Nat.le_add_right
abbrev vM:=@wpAny_mono
abbrev vN:=@Calls.spliced_cons
abbrev vO:=@List.countP_singleton
abbrev vP:=@List.find?_cons
abbrev vQ:=@Int.add_zero
abbrev vR:=@wpAny_Call_Name_kw
abbrev vS:=@wpAny_passesOwn
abbrev vT:=@Bool.eq_iff_iff
abbrev vU:=@PySem.F.slot_dict_get
abbrev vV:=@List.flatten_cons
def vX {n:Nat} (h:Nat.ble n 1000=true:=by rfl):n≤sizeLine:=Nat.le_trans (Nat.le_of_ble_eq_true h) (by decide)
abbrev Vc:List Str:=["thing"]
abbrev Vd:List Str:=["_law_script","_law_town_here"]
abbrev Ve:List Str:=["_law_script","_law_town_here","_law_many"]
abbrev Vf:List Str:=["code","labels","place","state"]
abbrev Vg:List Str:=["code","labels","place","depth","guard"]
abbrev Vh:List Str:=["_law_rows","_law_op","_law_arg"]
abbrev Aa:=PySem.Addr
abbrev Ab:=PySem.Value
abbrev Ac:=PySem.Shared

set_option maxHeartbeats 0
abbrev Ad:=@Option.map_eq_some_iff
abbrev Ae:=@Nat.add_le_add_right
abbrev Af:=@List.ext_getElem?
abbrev Ag:=@Option.isSome_iff_exists
abbrev Ah:=@Bool.eq_false_iff
abbrev Ai:=@beq_eq_false_iff_ne
abbrev Aj:=@List.countP_cons
abbrev Ak:=@List.map_map
abbrev Al:=@List.mem_filter
abbrev Am:=@List.length_range
abbrev An:=@List.getElem?_range
abbrev Ao:=@List.map_congr_left
abbrev Ap:=@Int.toNat_of_nonneg
abbrev Aq:=@List.nodup_append
abbrev Ar:=@Nat.add_sub_cancel_left
abbrev As:=@Nat.ne_of_gt
namespace L2
abbrev Key:=Sum Int Str
noncomputable def z22:Key->Ab->Bool
|.inl k,v=>Value.isInt k v
|.inr x,v=>Value.isStrOf x v
noncomputable def keyH(w:World):Key->Int
|.inl k=>hashInt k
|.inr x=>hashStr w x
def qo:∀{k:Key}{v:Ab},z22 k v=true->(∃i t,k=Sum.inl i/\v=Value.int i t)\/(∃x t,k=Sum.inr x/\v=Value.str x t)
|.inl i,v,h=>by
  obtain⟨t,e⟩:=Value.isInt_shape (k:=i) (v:=v) h;exact .inl ⟨i,t,rfl,e⟩
|.inr x,v,h=>by
  obtain⟨t,e⟩:=Value.isStrOf_shape (x:=x) (v:=v) h;exact .inr ⟨x,t,rfl,e⟩
def z4S(i:Int)(t:Tok):z22 (.inl i) (.int i t)=true:=by simp[z22,Value.isInt]
def z4R(x:Str)(t:Tok):z22 (.inr x) (.str x t)=true:=by simp[z22,Value.isStrOf]
def zaw(a b:Int):decide ((Sum.inl a:Key)=Sum.inl b)=(a == b):=by
 by_cases e:a=b
 ·subst e;simp
 ·have h:¬(Sum.inl a:Key)=Sum.inl b:=fun q=>e (Sum.inl.inj q)
  rw[ki h];exact (Ai.mpr e).symm
def zat(a b:Str):decide ((Sum.inr a:Key)=Sum.inr b)=decide (a=b):=by
 by_cases e:a=b
 ·subst e;simp
 ·have h:¬(Sum.inr a:Key)=Sum.inr b:=fun q=>e (Sum.inr.inj q)
  rw[ki h,ki e]
def zav(a:Int)(b:Str):decide ((Sum.inl a:Key)=Sum.inr b)=false:=ki (fun q=>nomatch q)
def zau(a:Str)(b:Int):decide ((Sum.inr a:Key)=Sum.inl b)=false:=ki (fun q=>nomatch q)
noncomputable def zX(prog:Program)(w:World):PySem.KeyKind prog w Key where
 is:=z22
 hash:=keyH w
 inj:=fun v a b ha hb=>by
  rcases qo ha with ⟨i,t,rfl,rfl⟩|⟨x,t,rfl,rfl⟩
  ·rcases qo hb with ⟨j,u,rfl,e⟩|⟨y,u,rfl,e⟩
   ·injection e with e1 _;rw[e1]
   ·exact nomatch e
  ·rcases qo hb with ⟨j,u,rfl,e⟩|⟨y,u,rfl,e⟩
   ·exact nomatch e
   ·injection e with e1 _;rw[e1]
 byValue:=fun k v h=>by
  rcases qo h with ⟨i,t,rfl,rfl⟩|⟨x,t,rfl,rfl⟩ <;> rfl
 pyHash:=fun hv h=>by
  rcases qo hv with ⟨i,t,rfl,rfl⟩|⟨x,t,rfl,rfl⟩
  ·exact wpAny_pyHash_int h
  ·exact wpAny_pyHash_str h
 eqBool:=fun hu hv h=>by
  rcases qo hu with ⟨i,t,rfl,rfl⟩|⟨x,t,rfl,rfl⟩
  ·rcases qo hv with ⟨j,u,rfl,rfl⟩|⟨y,u,rfl,rfl⟩
   ·rw[zaw] at h;exact wpAny_eqBool_int h
   ·rw[zav] at h;exact SeqAt.EqAt.int_str i t y u _ _ _ _ h
  ·rcases qo hv with ⟨j,u,rfl,rfl⟩|⟨y,u,rfl,rfl⟩
   ·rw[zau] at h;exact SeqAt.EqAt.str_int x t j u _ _ _ _ h
   ·rw[zat] at h;exact wpAny_eqBool_str h
 «strs»:=fun k x t v h=>by
  rcases qo h with ⟨i,u,rfl,e⟩|⟨y,u,rfl,e⟩
  ·exact nomatch e
  ·injection e with e1 _
   subst e1;cases v <;> rfl
def z1Z(prog:Program)(w:World)(i:Int)(t:Tok):(zX prog w).is (.inl i) (.int i t)=true:=z4S i t
def z1Y(prog:Program)(w:World)(x:Str)(t:Tok):(zX prog w).is (.inr x) (.str x t)=true:=z4R x t
inductive V where
|non|bl (b:Bool)|int (i:Int)|str (x:Str)|byt (b:Array UInt8)|flt (b:UInt64)|ref (a:Aa)|ty (n:String)
 deriving DecidableEq
def RelV:V->Ab->Prop
|.non,u=>u=Value.none
|.bl b,u=>u=Value.bool b
|.int i,u=>∃t,u=Value.int i t
|.str x,u=>∃t,u=Value.str x t
|.byt b,u=>∃t,u=Value.bytes b t
|.flt b,u=>∃t,u=Value.float b t
|.ref a,u=>u=Value.ref a
|.ty n,u=>u=Value.type n
abbrev Vals:List V->List Ab->Prop:=Paired RelV
def Vals.length{xs:List V}{us:List Ab}(r:Vals xs us):xs.length=us.length:=Paired.length r
def Vals.get:∀{xs:List V}{us:List Ab}{i:Nat}{x:V},Vals xs us->xs[i]?=some x->∃u,us[i]?=some u/\RelV x u
|_,_,_,_,.nil,e=>by simp at e
|_,_,0,_,.cons r _,e=>by simp at e;subst e;exact⟨_,rfl,r⟩
|_,_,i+1,x,.cons _ t,e=>by
  obtain⟨u,h1,h2⟩:=Vals.get (i:=i) (x:=x) t (by simpa using e);exact⟨u,by simpa using h1,h2⟩
def Vals.set{x:V}{u:Ab}(r:RelV x u):∀{xs:List V}{us:List Ab}(i:Nat),Vals xs us->Vals (xs.set i x) (us.set i u)
|_,_,_,.nil=>.nil
|_,_,0,.cons _ t=>.cons r t
|_,_,i+1,.cons q t=>.cons q (Vals.set r i t)
def Vals.append:∀{xs ys:List V}{us ws:List Ab},Vals xs us->Vals ys ws->Vals (xs++ys) (us++ws)
|_,_,_,_,.nil,s=>s
|_,_,_,_,.cons r t,s=>.cons r (Vals.append t s)
def Vals.take:∀{xs:List V}{us:List Ab}(n:Nat),Vals xs us->Vals (xs.take n) (us.take n)
|_,_,0,_=>.nil
|_,_,_+1,.nil=>.nil
|_,_,n+1,.cons r t=>.cons r (Vals.take n t)
def Vals.drop:∀{xs:List V}{us:List Ab}(n:Nat),Vals xs us->Vals (xs.drop n) (us.drop n)
|_,_,0,r=>r
|_,_,_+1,.nil=>.nil
|_,_,n+1,.cons _ t=>Vals.drop n t
def RelO:Option V->Option Ab->Prop
|some v,some u=>RelV v u
|none,none=>True
|_,_=>False
def KV{κ:Type}:List (κ × V)->List (κ × Ab)->Prop:=Paired fun (p:κ × V) (q:κ × Ab)=>p.1=q.1/\RelV p.2 q.2
noncomputable def kV:Key->V
|.inl i=>.int i
|.inr x=>.str x
inductive HO where
|lst (xs:List V)
|tup (xs:List V)
|dK (kvs:List (Key × V))|dT (kvs:List (List Key × V))
|set (S:Int->Bool) (n:Nat)
|ins (C dx:Aa) (fs:List (Str × V))
|own (x:Aa)
|xd (fs:List (Str × V))
|met (f x:Aa)
|rng (lo hi:Int)
|frz (o:Obj) (u:HO)
|tbl (ps:Array Ab)
|ext (φ:Heap->Prop)
abbrev Hp:=Aa->Option HO
noncomputable def upd(H:Hp)(a:Aa)(o:HO):Hp:=fun b=>if b=a then some o else H b
def z7{H:Hp}{a:Aa}{o:HO}:upd H a o a=some o:=by unfold upd;rw[kz rfl]
def zg{H:Hp}{a b:Aa}{o:HO}(h:b≠a):upd H a o b=H b:=by unfold upd;rw[ky h]
def z7O{H:Hp}{a:Aa}{o u:HO}:upd (upd H a o) a u=upd H a u:=by
 funext b;unfold upd;split <;> rfl
def jI{H:Hp}{a b:Aa}{o u:HO}(h:H a=some o)(h':H b=some u)(d:o≠u):a≠b:=by
 intro e;subst e;rw[h] at h';exact d (kC h')
def zd{H:Hp}{a b:Aa}{o:HO}(h:H a=some o)(h':H b=none):a≠b:=by
 intro e;subst e;rw[h] at h';cases h'
section
variable (P:Program)(w:World)
def qq(H:Hp)(h:Heap)(a:Aa):HO->Prop
|.lst xs=>xs.length<=sizeLine/\∃(its:List Ab)(n:Nat),Vals xs its/\h.get? a=some {cls:=.type "list",data:=.seq its.toArray n}
|.tup xs=>xs.length<=sizeLine/\∃its:List Ab,Vals xs its/\IsTup h a its.toArray
|.dK kvs=>kvs.length<=sizeLine/\(a == sysModules)=false/\∃vs,KV kvs vs/\h.DictOf (zX P w) a vs
|.dT kvs=>kvs.length<=sizeLine/\(a == sysModules)=false/\∃xs:List (List Key × Aa × Ab),
   Paired (fun (p:List Key × V) (q:List Key × Aa × Ab)=>p.1=q.1/\H q.2.1=some (.tup<|p.1.map kV)/\RelV p.2 q.2.2) kvs xs/\
   ∃o es ep,h.get? a=some o/\o.ExactDict/\o.data=.dict es ep/\es.toList=xs.map (entryOfKey<|tupleKind<|zX P w)/\(xs.map (·.1)).Nodup
|.set S n=>h.SetOf (intKind P w) a S n
|.ins C dx fs=>H dx=some (.own a)/\fs.length<=1000/\dx≠a/\h.get? a=some (PySem.W.instObj C dx)/\
   ∃mA,h.Ns1 dx mA/\(∀f,RelO (fs.lookup f)<|mA f)/\PySem.Within mA (fs.map (·.1))
|.own _=>∃o,h.get? a=some o
|.xd fs=>∃mA,h.Ns1 a mA/\∀f,RelO (fs.lookup f) (mA f)
|.rng lo hi=>∃t u v,h.get? a=some {cls:=.type "range",data:=.fields #[.int lo t,.int hi u,.int 1 v]}
|.frz o u=>h.get? a=some o/\qq H h a u
|.tbl ps=>h.get? a=some {cls:=.none,data:=.fields ps}
|.met f x=>h.get? a=some (PySem.W.methodObj (.ref f)<|.ref x)
|.ext φ=>φ h/\(∃o,h.get? a=some o)/\∀h1 h2:Heap,φ h1->(∀o,h1.get? a=some o->h2.get? a=some o)->φ h2
def HOk(H:Hp)(h:Heap):Prop:=∀a o,H a=some o->qq P w H h a o
end
section
variable {P:Program}{w:World}{H H':Hp}{h h':Heap}{a:Aa}{o:HO}
def qq.lt(x:qq P w H h a o):a < h.objs.size:=by
 cases o with
|lst xs=>obtain⟨_,_,_,_,e⟩:=x;exact vf e
|tup xs=>obtain⟨_,_,_,p⟩:=x;exact p.lt
|dK kvs=>obtain⟨_,_,_,_,o,_,_,e,_⟩:=x;exact vf e
|dT kvs=>obtain⟨_,_,_,_,o,_,_,e,_⟩:=x;exact vf e
|set S n=>obtain⟨o,_,_,_,e,_⟩:=x;exact vf e
|ins C dx fs=>obtain⟨_,_,_,e,_⟩:=x;exact vf e
|own y=>obtain⟨_,e⟩:=x;exact vf e
|xd fs=>obtain⟨_,⟨_,_,_,e,_⟩,_⟩:=x;exact vf e
|rng lo hi=>obtain⟨_,_,_,e⟩:=x;exact vf e
|frz ob u=>obtain⟨e,_⟩:=x;exact vf e
|tbl ps=>exact vf (show h.get? a=some _ from x)
|met f y=>exact vf (show h.get? a=some _ from x)
|ext φ=>obtain⟨_,⟨_,e⟩,_⟩:=x;exact vf e
def Paired.mapP{α β:Type}{F G:α->β->Prop}:∀{l₁:List α}{l₂:List β},Paired F l₁ l₂->(∀a b,F a b->G a b)->Paired G l₁ l₂
|_,_,.nil,_=>.nil
|_,_,.cons r t,f=>.cons (f _ _ r) (Paired.mapP t f)
def qq.stay(x:qq P w H h a o)(k:∀b u,(b=a\/H b=some (.own a))->h.get? b=some u->h'.get? b=some u)(ho:∀b,H b=some (.own a)->H' b=some (.own a))(ht:∀b xs,H b=some (.tup xs)->H' b=some (.tup xs)):qq P w H' h' a o:=by
 induction o with
|lst xs=>obtain⟨z,its,n,r,e⟩:=x;exact⟨z,its,n,r,k _ _ (.inl rfl) e⟩
|tup xs=>obtain⟨z,its,r,ob,e,c⟩:=x;exact⟨z,its,r,ob,k _ _ (.inl rfl) e,c⟩
|dK kvs=>obtain⟨z,y,vs,r,ob,es,ep,e,c⟩:=x;exact⟨z,y,vs,r,ob,es,ep,k _ _ (.inl rfl) e,c⟩
|dT kvs=>
  obtain⟨z,y,xs,r,ob,es,ep,e,c⟩:=x;exact⟨z,y,xs,Paired.mapP r fun p q z=>⟨z.1,ht _ _ z.2.1,z.2.2⟩,ob,es,ep,k _ _ (.inl rfl) e,c⟩
|set S n=>obtain⟨ob,es,ep,t,e,c⟩:=x;exact⟨ob,es,ep,t,k _ _ (.inl rfl) e,c⟩
|ins C dx fs=>
  obtain⟨d,z,ne,e,mA,⟨od,es,ep,e2,c⟩,r⟩:=x;exact⟨ho _ d,z,ne,k _ _ (.inl rfl) e,mA,⟨od,es,ep,k _ _ (.inr d) e2,c⟩,r⟩
|own y=>obtain⟨ob,e⟩:=x;exact⟨ob,k _ _ (.inl rfl) e⟩
|xd fs=>obtain⟨mA,⟨od,es,ep,e,c⟩,r⟩:=x;exact⟨mA,⟨od,es,ep,k _ _ (.inl rfl) e,c⟩,r⟩
|rng lo hi=>obtain⟨t,u,v,e⟩:=x;exact⟨t,u,v,k _ _ (.inl rfl) e⟩
|frz ob u ih=>obtain⟨e,q⟩:=x;exact⟨k _ _ (.inl rfl) e,ih q⟩
|tbl ps=>
  have e:h.get? a=some {cls:=.none,data:=.fields ps}:=x;show h'.get? a=some {cls:=.none,data:=.fields ps};exact k a _ (.inl rfl) e
|met f y=>
  have e:h.get? a=some (PySem.W.methodObj (.ref f)<|.ref y):=x;show h'.get? a=some (PySem.W.methodObj (.ref f)<|.ref y);exact k a _ (.inl rfl) e
|ext φ=>obtain⟨p,⟨o,e⟩,st⟩:=x;exact⟨st _ _ p fun o q=>k _ _ (.inl rfl) q,⟨o,k _ _ (.inl rfl) e⟩,st⟩
def HOk.lt(x:HOk P w H h)(e:H a=some o):a < h.objs.size:=(x a o e).lt
def HOk.fresh(x:HOk P w H h)(e:h.objs.size<=a):H a=none:=by
 cases q:H a with
|none=>rfl
|some u=>exact vd (kM (x.lt q) e) (vD _)
def HOk.kept(x:HOk P w H h)(k:∀b u,h.get? b=some u->h'.get? b=some u):HOk P w H h':=fun a o e=>
 (x a o e).stay (fun b u _ q=>k b u q) (fun _ q=>q) fun _ _ q=>q
def HOk.laid(x:HOk P w H h)(k:∀b u,h.get? b=some u->h'.get? b=some u)(hp:h.objs.size<=a)(new:qq P w (upd H a o) h' a o):HOk P w (upd H a o) h':=fun b u e=>by
 have hn:=x.fresh hp;by_cases hb:b=a
 ·subst hb;rw[z7] at e;cases e;exact new
 ·rw[zg hb] at e;exact (x b u e).stay (fun c v _ q=>k c v q) (fun c q=>by rw[zg<|zd q hn];exact q) fun c xs q=>by rw[zg<|zd q hn];exact q
end
def Rd(H:Hp)(a:Aa)(u:HO):Prop:=H a=some u\/∃o,H a=some (.frz o u)
def Rd.ok{P:Program}{w:World}{H:Hp}{h:Heap}{a:Aa}{u:HO}(r:Rd H a u)(x:HOk P w H h):qq P w H h a u:=by
 rcases r with r|⟨o,r⟩
 ·exact x a u r
 ·obtain⟨_,q⟩:=x a _ r;exact q
def Mut:Option HO->Prop
|some (.lst _)=>True
|some (.dK _)=>True
|some (.dT _)=>True
|some (.set _ _)=>True
|some (.ins _ _ _)=>True
|some (.ext _)=>True
|_=>False
section
variable {P:Program}{w:World}{H:Hp}{h h':Heap}{x e:Aa}{o':HO}
def HOk.write(ok:HOk P w H h)(mu:Mut (H x))(he:e=x\/H e=some (.own x))(k:∀b u,b≠e->h.get? b=some u->h'.get? b=some u)(heo:∃u,h'.get? e=some u)(new:qq P w (upd H x o') h' x o'):HOk P w (upd H x o') h':=fun b u q=>by
 have nown:∀c y,H c=some (.own y)->c≠x:=fun c y r z=>by subst z;rw[r] at mu;exact mu
 have ntup:∀c xs,H c=some (.tup xs)->c≠x:=fun c xs r z=>by subst z;rw[r] at mu;exact mu
 by_cases hb:b=x
 ·subst hb;rw[z7] at q;cases q;exact new
 ·rw[zg hb] at q;by_cases hbe:b=e
  ·have q':H b=some (.own x):=by
    rcases he with z|z
    ·exact vd (hbe.trans z) hb
    ·rw[hbe];exact z
   rw[q] at q';cases q';obtain⟨v,hv⟩:=heo;exact⟨v,by rw[hbe];exact hv⟩
  ·refine (ok b u q).stay (fun c v hc r=>k c v ?_ r) (fun c r=>by rw[zg<|nown c b r];exact r) fun c xs r=>by rw[zg<|ntup c xs r];exact r
   rcases hc with rfl|hc
   ·exact hbe
   ·rintro rfl;rcases he with z|z
    ·exact nown c b hc z
    ·rw[hc] at z;cases z;exact hb rfl
end
structure Un(fs ex:List Aa)(H H':Hp)(h h':Heap):Prop where
 keep:∀b o,h.get? b=some o->H b=none->b∉fs->b∉ex->h'.get? b=some o
 slot:∀b o,h.get? b=some o->H b=none->b∈fs->b∉ex->∃sl,h'.get? b=some {o with slots:=sl}
 free:∀b o,h.get? b=some o->H b=none->b∉ex->H' b=none
 there:∀b o,h.get? b=some o->b∉ex->∃o',h'.get? b=some o'
 tups:∀b xs,H b=some (.tup xs)->H' b=some (.tup xs)
 frzs:∀b o u,H b=some (.frz o u)->H' b=some (.frz o u)
 tbls:∀b ps,H b=some (.tbl ps)->∃more,H' b=some (.tbl (ps++more))
section
variable {fs fs' ex ex':List Aa}{H H1 H2:Hp}{h h1 h2 h':Heap}{a x e:Aa}{o:HO}
def Un.any(u:Un fs ex H H1 h h1){b:Aa}{ob:Obj}(q:h.get? b=some ob)(n:H b=none)(hx:b∉ex):∃sl,h1.get? b=some {ob with slots:=sl}:=by
 by_cases hb:b∈fs
 ·exact u.slot b ob q n hb hx
 ·exact⟨ob.slots,u.keep b ob q n hb hx⟩
def Un.kept(k:∀b u,h.get? b=some u->h'.get? b=some u):Un fs ex H H h h':=
 ⟨fun b ob q _ _ _=>k b ob q,fun b ob q _ _ _=>⟨ob.slots,k b ob q⟩,fun _ _ _ n _=>n,fun b ob q _=>⟨ob,k b ob q⟩,fun _ _ q=>q,fun _ _ _ q=>q,fun _ ps q=>⟨#[],by rw[q];simp⟩⟩
def Un.refl:Un fs ex H H h h:=Un.kept fun _ _ q=>q
def Un.laid(k:∀b u,h.get? b=some u->h'.get? b=some u)(hp:h.objs.size<=a)(hn:H a=none):Un fs ex H (upd H a o) h h' where
 keep:=fun b u q _ _ _=>k b u q
 slot:=fun b u q _ _ _=>⟨u.slots,k b u q⟩
 free:=fun b u q n _=>by rw[zg<|vn<|kM (vf q) hp];exact n
 there:=fun b u q _=>⟨u,k b u q⟩
 tups:=fun b xs q=>by rw[zg<|zd q hn];exact q
 frzs:=fun b u xs q=>by rw[zg<|zd q hn];exact q
 tbls:=fun b ps q=>⟨#[],by rw[zg<|zd q hn,q];simp⟩
def Un.write(mu:Mut (H x))(he:e=x\/H e=some (.own x))(k:∀b u,b≠e->h.get? b=some u->h'.get? b=some u)(heo:∃u,h'.get? e=some u):Un fs ex H (upd H x o) h h':=by
 have hx:∀b,H b=none->b≠x:=fun b n z=>by subst z;rw[n] at mu;exact mu
 have hb:∀b,H b=none->b≠e:=fun b n z=>by
  subst z;rcases he with r|r
  ·exact hx b n r
  ·rw[n] at r;cases r
 have hm:∀b u,H b=some u->¬Mut (some u)->b≠x:=fun b u q nm z=>by subst z;rw[q] at mu;exact nm mu
 refine⟨fun b u q n _ _=>k b u (hb b n) q,fun b u q n _ _=>⟨u.slots,k b u (hb b n) q⟩,fun b u q n _=>by rw[zg<|hx b n];exact n,fun b u q _=>?_,
  fun b xs q=>by rw[zg (hm b _ q fun z=>z)];exact q,fun b u xs q=>by rw[zg (hm b _ q fun z=>z)];exact q,fun b ps q=>⟨#[],by rw[zg (hm b _ q fun z=>z),q];simp⟩⟩
 by_cases hbe:b=e
 ·subst hbe;exact heo
 ·exact⟨u,k b u hbe q⟩
end
noncomputable def trk(h:Heap)(H:Hp):List Aa:=(List.range h.objs.size).filter fun a=>(H a).isSome
noncomputable def hidT(h:Heap)(H:Hp):Heap:=PySem.W.hideAll h (trk h H)
def z4Y(h:Heap)(H:Hp):(hidT h H).objs.size=h.objs.size:=PySem.W.hideAll_size _ _
def z6F{h:Heap}{H:Hp}{b:Aa}{o:Obj}(e:h.get? b=some o)(n:H b=none):(hidT h H).get? b=some o:=
 PySem.W.hideAll_get _ e fun hm=>by
  have q:(H b).isSome=true:=(Al.mp hm).2;rw[n] at q;simp at q
def z8j{h:Heap}{H:Hp}{b:Aa}{o:Obj}(e:(hidT h H).get? b=some o):h.get? b=some o/\H b=none:=by
 have e':h.get? b=some o:=PySem.W.of_hideAll (trk h H) e;refine⟨e',?_⟩;cases q:H b with
|none=>rfl
|some x=>
  have hm:b∈trk h H:=Al.mpr ⟨List.mem_range.mpr<|vf e',by simp[q]⟩;have z:(hidT h H).get? b=none:=PySem.W.hideAll_none (trk h H) hm;rw[z] at e;cases e
structure Mod(K:ku)(mg:Str->Option Ab)(base:Heap):Prop where
 kin:K.In base
 glob:base.Ns mainGlobals mg
 blt:∃mb,base.Ns builtinsNs mb/\∀x:Str,x≠"__name__"->mb x=bootBuiltins x
 nolimit:base.NoLimit
structure Cx where
 prog:Program
 w:World
 K:ku
 mg:Str->Option Ab
 base:Heap
 A:Around
 N:List Str
 s₀:Ac
 H₀:Hp
 env:Env
 vZ:List Env
 stack:List Env
 ex:List Aa
 fn:Str->Bool
 calm:Bool
 pn:List (Aa × Obj)
 xe:Ab->Ac->Prop
noncomputable def frs(l:List Env):List Aa:=l.filterMap (·.frame)
noncomputable abbrev Cx.fs(X:Cx):List Aa:=frs X.vZ
def Vis(sc:Scope)(x:Str):Prop:=sc.names.lookup x=some .local\/sc.names.lookup x=some .cell\/sc.names.lookup x=some .free
def Loc(sc:Scope)(x:Str):Prop:=sc.names.lookup x=some .local\/sc.names.lookup x=some .cell
def Look(env:Env)(h:Heap)(m:Str->Option Ab)(x:Str)(u:Ab):Prop:=
 (env.kindOf x=some .local/\m x=some u)\/((env.kindOf x=some .cell\/env.kindOf x=some .free)/\∃c,env.cells.lookup x=some c/\h.IsCell c (some u))
structure Cx.Ok(X:Cx):Prop where
 mod:Mod X.K X.mg X.base
 kind:X.env.scope.kind=.function
 glob:X.env.globals=mainGlobals
 blt:X.env.builtins=builtinsNs
 above:X.s₀.heap.objs.size<=X.env.locals
 inj:∀x y c,X.env.cells.lookup x=some c->X.env.cells.lookup y=some c->x=y
 has:∀x,(X.env.kindOf x=some .cell\/X.env.kindOf x=some .free)->∃c,X.env.cells.lookup x=some c
 cab:∀x c,X.fn x=true->X.env.cells.lookup x=some c->X.s₀.heap.objs.size<=c
 hd:X.calm=true->X.A.handled=none
 frames:X.A.frames=some X.stack
 stk:X.stack=X.vZ\/(X.stack=X.env::X.vZ/\X.env.frame=some X.env.locals)
 exf:∀b∈X.ex,b≠X.env.locals/\∀x c,X.env.cells.lookup x=some c->c≠b
 bs:∀b o,X.base.get? b=some o->X.s₀.heap.get? b=some o/\X.H₀ b=none
 bsz:X.base.objs.size<=X.s₀.heap.objs.size
 noex:∀b o,X.base.get? b=some o->b∉X.ex
 exfs:∀b∈X.ex,b∉X.fs
 funs:X.s₀.heap.FunFrames X.base X.vZ
 frf:∀b∈X.fs,X.H₀ b=none
structure Inv(X:Cx)(vY:List (Aa × Obj))(σ:List (Option V))(H:Hp)(s:Ac):Prop where
 ok:X.Ok
 os:s.os=X.s₀.os
 bare:AllBare s.gens
 base:Un X.fs X.ex X.H₀ H X.s₀.heap s.heap
 loc:∃m,s.heap.Ns X.env.locals m/\∀(i:Nat)(x:Str)(v:V),X.N[i]?=some x->σ[i]?=some (some v)->Vis X.env.scope x->∃u,RelV v u/\Look X.env s.heap m x u
 cell:∀x c,X.env.cells.lookup x=some c->∃v,s.heap.IsCell c v
 free:H X.env.locals=none
 freeC:∀x c,X.env.cells.lookup x=some c->H c=none
 pin:∀p∈X.pn++vY,s.heap.get? p.1=some p.2/\H p.1=none/\p.1≠X.env.locals/\p.1∉X.fs/\∀v,p.2.data≠.cell v
 hok:HOk X.prog X.w H s.heap
 len:σ.length=X.N.length
section
variable {X:Cx}{vY:List (Aa × Obj)}{σ:List (Option V)}{H H':Hp}{s:Ac}{h':Heap}
def Cx.Ok.nofr(ok:X.Ok){b:Aa}{o:Obj}(e:X.base.get? b=some o):b∉X.fs:=fun hb=>by
 have:=(ok.funs.mem hb).1
 rw[e] at this;cases this
def Inv.bs(I:Inv X vY σ H s):∀b o,X.base.get? b=some o->s.heap.get? b=some o/\H b=none:=fun b o e=>
 ⟨I.base.keep b o (I.ok.bs b o e).1 (I.ok.bs b o e).2 (I.ok.nofr e)<|I.ok.noex b o e,I.base.free b o (I.ok.bs b o e).1 (I.ok.bs b o e).2<|I.ok.noex b o e⟩
def Inv.bk(I:Inv X vY σ H s):∀b o,X.base.get? b=some o->s.heap.get? b=some o:=fun b o e=>(I.bs b o e).1
def Inv.mod(I:Inv X vY σ H s):Mod X.K X.mg X.base:=I.ok.mod
def Inv.kIn(I:Inv X vY σ H s):X.K.In s.heap:=I.ok.mod.kin.keeps I.bk
def Inv.lt(I:Inv X vY σ H s):X.env.locals < s.heap.objs.size:=let ⟨_,hn,_⟩:=I.loc;hn.lt
def Inv.sz(I:Inv X vY σ H s):X.s₀.heap.objs.size<=s.heap.objs.size:=kr I.ok.above (Nat.le_of_lt I.lt)
def Inv.nofs(I:Inv X vY σ H s){a:Aa}(h:s.heap.objs.size<=a):a∉X.fs:=fun hb=>by
 obtain⟨_,o,ho,_⟩:=I.ok.funs.mem hb;exact vd (kM (vf ho)<|kr I.sz h) (vD _)
def Inv.cne(I:Inv X vY σ H s):∀x c,X.env.cells.lookup x=some c->c≠X.env.locals:=fun x c e z=>by
 obtain⟨v,o,ho,hd⟩:=I.cell x c e;obtain⟨m,⟨o',es,ep,ho',hd',_⟩,_⟩:=I.loc;rw[z,ho'] at ho;cases ho;rw[hd'] at hd;cases hd
def Inv.funs(I:Inv X vY σ H s):s.heap.FunFrames X.base X.vZ:=by
 have all:∀(l:List Env),(∀b∈frs l,b∈X.fs)->X.s₀.heap.FunFrames X.base l->s.heap.FunFrames X.base l:=by
  intro l;induction l with
 |nil=>intro _ _;trivial
 |cons env r ih=>
   intro hs hl;obtain⟨hk,⟨L,o,hf,hn,ho,hd⟩,hr⟩:=hl;have hL:L∈X.fs:=hs L (by unfold frs;rw[List.filterMap_cons,hf];exact kQ);obtain⟨sl,e⟩:=I.base.slot L o ho (I.ok.frf L hL) hL fun z=>I.ok.exfs L z hL
   exact⟨hk,⟨L,_,hf,hn,e,hd⟩,ih (fun b hb=>hs b<|by unfold frs;rw[List.filterMap_cons,hf];exact kR _ hb) hr⟩
 exact all X.vZ (fun _ hb=>hb) I.ok.funs
def Inv.stack(I:Inv X vY σ H s):s.heap.FunFrames X.base X.stack:=by
 rcases I.ok.stk with e|⟨e,hf⟩
 ·rw[e];exact I.funs
 ·rw[e];obtain⟨m,hn,_⟩:=I.loc;refine .cons (by rw[I.ok.kind];decide) hf hn ?_ I.funs;exact Heap.get?_none_of_le (kr I.ok.bsz I.ok.above)
def Inv.stkSub(I:Inv X vY σ H s):∀b∈frs X.stack,b∈X.env.locals::X.fs:=fun b hb=>by
 rcases I.ok.stk with e|⟨e,hf⟩
 ·rw[e] at hb;exact kR _ hb
 ·rw[e] at hb;unfold frs at hb;rw[List.filterMap_cons,hf] at hb;exact hb
def Inv.stkFree(I:Inv X vY σ H s):∀b∈frs X.stack,H b=none:=fun b hb=>by
 rcases kE.mp (I.stkSub b hb) with e|hb
 ·rw[e];exact I.free
 ·obtain⟨_,o,ho,_⟩:=I.ok.funs.mem hb;exact I.base.free b o ho (I.ok.frf b hb) fun z=>I.ok.exfs b z hb
def Inv.step{g':Array GenState}{t':Nat}{d':Drawn}{ch:List Aa}(I:Inv X vY σ H s)(hch:∀b∈ch,(b∈X.ex\/X.s₀.heap.objs.size<=b)/\b≠X.env.locals/\(∀x c,X.env.cells.lookup x=some c->c≠b)/\∀p∈X.pn++vY,p.1≠b)(keep:∀b o,b≠X.env.locals->b∉X.fs->b∉ch->s.heap.get? b=some o->H b=none->h'.get? b=some o)(slot:∀b o,b≠X.env.locals->b∈X.fs->b∉ch->s.heap.get? b=some o->H b=none->∃sl,h'.get? b=some {o with slots:=sl})(free:∀b o,b∉ch->s.heap.get? b=some o->H b=none->H' b=none)(there:∀b o,b∉ch->s.heap.get? b=some o->∃o',h'.get? b=some o')(tups:∀b xs,H b=some (.tup xs)->H' b=some (.tup xs))(frzs:∀b o u,H b=some (.frz o u)->H' b=some (.frz o u))(tbls:∀b ps,H b=some (.tbl ps)->∃more,H' b=some (.tbl (ps++more)))(ns:∀m,s.heap.Ns X.env.locals m->h'.Ns X.env.locals m)(hok:HOk X.prog X.w H' h')(hg:AllBare g'):
  Inv X vY σ H' {s with heap:=h',gens:=g',drawn:=d',toks:=t'}:=by
 have neL:∀b o,X.s₀.heap.get? b=some o->b≠X.env.locals:=fun b o e=>vn (kM (vf e) I.ok.above)
 have neC:∀b o,X.s₀.heap.get? b=some o->b∉X.ex->b∉ch:=fun b o e hx hb=>by
  rcases (hch b hb).1 with z|z
  ·exact hx z
  ·exact vd (kM (vf e) z) (vD _)
 have cellK:∀x c,X.env.cells.lookup x=some c->∀v,s.heap.IsCell c v->h'.IsCell c v:=fun x c e v ⟨o,ho,hd⟩=>by
  have nch:c∉ch:=fun z=>(hch c z).2.2.1 x c e rfl
  by_cases hc:c∈X.fs
  ·obtain⟨sl,q⟩:=slot c o (I.cne x c e) hc nch ho (I.freeC x c e);exact⟨_,q,hd⟩
  ·exact⟨o,keep c o (I.cne x c e) hc nch ho<|I.freeC x c e,hd⟩
 refine⟨I.ok,I.os,hg,⟨fun b o e n hb hx=>?_,fun b o e n hb hx=>?_,fun b o e n hx=>?_,fun b o e hx=>?_,fun b xs e=>tups b xs<|I.base.tups b xs e,fun b o xs e=>frzs b o xs<|I.base.frzs b o xs e,fun b ps e=>?_⟩,?_,fun x c e=>?_,?_,fun x c e=>?_,fun p hp=>?_,hok,I.len⟩
 ·exact keep b o (neL b o e) hb (neC b o e hx) (I.base.keep b o e n hb hx) (I.base.free b o e n hx)
 ·obtain⟨sl,e1⟩:=I.base.slot b o e n hb hx;obtain⟨sl',e2⟩:=slot b _ (neL b o e) hb (neC b o e hx) e1 (I.base.free b o e n hx);exact⟨sl',e2⟩
 ·obtain⟨o',e1⟩:=I.base.there b o e hx;exact free b o' (neC b o e hx) e1 (I.base.free b o e n hx)
 ·obtain⟨o',e1⟩:=I.base.there b o e hx;exact there b o' (neC b o e hx) e1
 ·obtain⟨m1,e1⟩:=I.base.tbls b ps e;obtain⟨m2,e2⟩:=tbls b _ e1;exact⟨m1++m2,by rw[e2,Array.append_assoc]⟩
 ·obtain⟨m,hn,hl⟩:=I.loc;refine⟨m,ns m hn,fun i x v e1 e2 e3=>?_⟩;obtain⟨u,r,l⟩:=hl i x v e1 e2 e3;refine⟨u,r,?_⟩;rcases l with l|⟨k,c,e,z⟩
  ·exact .inl l
  ·exact .inr ⟨k,c,e,cellK x c e _ z⟩
 ·obtain⟨v,z⟩:=I.cell x c e;exact⟨v,cellK x c e v z⟩
 ·obtain⟨m,⟨o,_,_,ho,_⟩,_⟩:=I.loc;exact free _ o (fun z=>(hch _ z).2.1 rfl) ho I.free
 ·obtain⟨v,o,ho,hd⟩:=I.cell x c e;exact free c o (fun z=>(hch c z).2.2.1 x c e rfl) ho (I.freeC x c e)
 ·obtain⟨e,n,ne,nf,d⟩:=I.pin p hp;have nch:p.1∉ch:=fun z=>(hch p.1 z).2.2.2 p hp rfl
  exact⟨keep p.1 p.2 ne nf nch e n,free p.1 p.2 nch e n,ne,nf,d⟩
def Inv.un{t':Nat}(I:Inv X vY σ H s)(u:Un X.fs [] H H' s.heap h')(hok:HOk X.prog X.w H' h'):Inv X vY σ H' {s with heap:=h',toks:=t'}:=by
 obtain⟨m,⟨o,es,ep,ho,r⟩,_⟩:=id I.loc;obtain⟨sl,hL⟩:=u.any ho I.free (by simp);exact I.step (g':=s.gens) (d':=s.drawn) (ch:=[]) (fun _ z=>nomatch z) (fun b o _ hb _ e n=>u.keep b o e n hb<|by simp) (fun b o _ hb _ e n=>u.slot b o e n hb<|by simp) (fun b o _ e n=>u.free b o e n<|by simp) (fun b o _ e=>u.there b o e<|by simp) u.tups u.frzs u.tbls (fun m' hm=>by
  obtain⟨o',es',ep',ho',r'⟩:=hm;rw[ho] at ho';cases ho';exact⟨_,es',ep',hL,r'⟩) hok I.bare
def Inv.call{g':Array GenState}{t':Nat}{d':Drawn}{ch:List Aa}(I:Inv X vY σ H s)(u:Un (frs X.stack) ch H H' s.heap h')(hok:HOk X.prog X.w H' h')(hg:AllBare g')(hch:∀b∈ch,(b∈X.ex\/X.s₀.heap.objs.size<=b)/\b≠X.env.locals/\(∀x c,X.env.cells.lookup x=some c->c≠b)/\∀p∈X.pn++vY,p.1≠b):
  Inv X vY σ H' {s with heap:=h',gens:=g',drawn:=d',toks:=t'}:=by
 obtain⟨m,⟨o,es,ep,ho,r⟩,_⟩:=id I.loc;obtain⟨sl,hL⟩:=u.any ho I.free fun z=>(hch _ z).2.1 rfl
 exact I.step (ch:=ch) hch (fun b o hL hb hc e n=>u.keep b o e n (fun z=>(kE.mp<|I.stkSub b z).elim hL hb) hc) (fun b o _ _ hc e n=>u.any e n hc) (fun b o hc e n=>u.free b o e n hc) (fun b o hc e=>u.there b o e hc) u.tups u.frzs u.tbls (fun m' hm=>by
  obtain⟨o',es',ep',ho',r'⟩:=hm;rw[ho] at ho';cases ho';exact⟨_,es',ep',hL,r'⟩) hok hg
def Inv.turned{t':Nat}{it:Aa}(I:Inv X vY σ H s)(k:∀b o,b≠it->s.heap.get? b=some o->h'.get? b=some o)(hn:H it=none)(hL:it≠X.env.locals)(h1:it∈X.ex\/X.s₀.heap.objs.size<=it)(h2:∀x c,X.env.cells.lookup x=some c->c≠it)(h3:∀p∈X.pn++vY,p.1≠it):Inv X vY σ H {s with heap:=h',toks:=t'}:=by
 have nit:∀b u,H b=some u->b≠it:=fun b u e z=>by rw[z,hn] at e;cases e
 refine I.step (g':=s.gens) (d':=s.drawn) (ch:=[it]) (fun b hb=>?_) (fun b o _ _ hc e _=>k b o (fun z=>hc<|by simp[z]) e) (fun b o _ _ hc e _=>⟨o.slots,k b o (fun z=>hc<|by simp[z]) e⟩) (fun _ _ _ _ n=>n)
  (fun b o hc e=>⟨o,k b o (fun z=>hc<|by simp[z]) e⟩) (fun _ _ e=>e) (fun _ _ _ e=>e) (fun b ps e=>⟨#[],by rw[e];simp⟩) (fun m hm=>?_) (fun b u e=>?_) I.bare
 ·have e:b=it:=by simpa using hb
  subst e;exact⟨h1,hL,h2,h3⟩
 ·obtain⟨o,es,ep,ho,r⟩:=hm;exact⟨o,es,ep,k _ o (Ne.symm hL) ho,r⟩
 ·refine (I.hok b u e).stay (fun c v hc q=>k c v ?_ q) (fun _ q=>q) fun _ _ q=>q
  rcases hc with z|z
  ·rw[z];exact nit b u e
  ·exact nit c _ z
def Inv.tok(I:Inv X vY σ H s)(t:Nat):Inv X vY σ H {s with toks:=t}:=I.un (h':=s.heap) (t':=t) Un.refl I.hok
def Inv.kept{t':Nat}(I:Inv X vY σ H s)(k:∀b u,s.heap.get? b=some u->h'.get? b=some u):Inv X vY σ H {s with heap:=h',toks:=t'}:=I.un (Un.kept k) (I.hok.kept k)
def Inv.laid{a:Aa}{o:HO}{t':Nat}(I:Inv X vY σ H s)(k:∀b u,s.heap.get? b=some u->h'.get? b=some u)(hp:s.heap.objs.size<=a)(new:qq X.prog X.w (upd H a o) h' a o):
  Inv X vY σ (upd H a o) {s with heap:=h',toks:=t'}:=I.un (Un.laid k hp<|I.hok.fresh hp) (I.hok.laid k hp new)
def Inv.write{x e:Aa}{o:HO}{t':Nat}(I:Inv X vY σ H s)(mu:Mut (H x))(he:e=x\/H e=some (.own x))(k:∀b u,b≠e->s.heap.get? b=some u->h'.get? b=some u)(heo:∃u,h'.get? e=some u)(new:qq X.prog X.w (upd H x o) h' x o):Inv X vY σ (upd H x o) {s with heap:=h',toks:=t'}:=I.un (Un.write mu he k heo) (I.hok.write mu he k heo new)
def Inv.pins_of{pins':List (Aa × Obj)}(I:Inv X vY σ H s)(h:∀p∈pins',s.heap.get? p.1=some p.2/\H p.1=none/\p.1≠X.env.locals/\p.1∉X.fs/\∀v,p.2.data≠.cell v):Inv X pins' σ H s:=
 ⟨I.ok,I.os,I.bare,I.base,I.loc,I.cell,I.free,I.freeC,fun p hp=>(kS.mp hp).elim (fun z=>I.pin p<|kO _ z)<|h p,I.hok,I.len⟩
def z2E{N:List Str}(hN:N.Nodup){i j:Nat}{x:Str}(a:N[i]?=some x)(b:N[j]?=some x):i=j:=by
 obtain⟨h1,e1⟩:=kh.mp a;obtain⟨h2,e2⟩:=kh.mp b;exact (List.getElem_inj hN).mp (e1.trans e2.symm)
def QV{M:Model}{A:Around}{E:Ab->Ac->Prop}{i:Nat}{x:Str}{v:V}{u:Ab}{Q:Unit->Ac->Prop}(I:Inv X vY σ H s)(hN:X.N.Nodup)(hi:X.N[i]?=some x)(hx:Loc X.env.scope x)(r:RelV v u)(h:∀s',Inv X vY (σ.set i<|some v) H s'->(∃a,Heap.SameBut a s.heap s'.heap/\(a=X.env.locals\/X.env.cells.lookup x=some a))->Q () s')(hf:X.fn x=true\/X.env.scope.names.lookup x=some .local:=by first|exact .inl rfl|exact .inr rfl|assumption):wpAny M A (storeName X.env x u) Q E s:=by
 obtain⟨m,hn,hl⟩:=id I.loc;have hcls:(X.env.scope.kind == .class||(X.env.scope.kind == .module&&X.env.locals != X.env.globals))=false:=by rw[I.ok.kind];rfl
 have hiσ:i < σ.length:=by rw[I.len];exact (kh.mp hi).1
 have cne:=I.cne;have tracked:∀{a:Aa}{h':Heap},(∃o,s.heap.get? a=some o/\H a=none)->Heap.SameBut a s.heap h'->HOk X.prog X.w H h':=fun {a h'} ha hs b ob e=>by
  obtain⟨_,_,hfree⟩:=ha;refine (I.hok b ob e).stay (fun c w' hc q=>(hs.2 c ?_).trans q) (fun _ q=>q) fun _ _ q=>q
  rintro rfl;rcases hc with rfl|hc
  ·rw[hfree] at e;cases e
  ·rw[hfree] at hc;cases hc
 rcases hx with hk|hk
 ·refine wpAny_storeName_local hk hn (fun h' hn' hs=>?_) hcls;obtain⟨oL,_,_,hoL,_⟩:=id hn;refine h _ ⟨I.ok,I.os,I.bare,⟨fun b o e n hb hx=>?_,fun b o e n hb hx=>?_,I.base.free,fun b o e hx=>?_,I.base.tups,I.base.frzs,I.base.tbls⟩,⟨_,hn',fun j y v' e1 e2 e3=>?_⟩,fun y c e=>?_,I.free,I.freeC,fun p hp=>?_,tracked ⟨oL,hoL,I.free⟩ hs,by simpa using I.len⟩ ⟨_,hs,.inl rfl⟩
  ·exact (hs.2 b<|vn<|kM (vf e) I.ok.above).trans (I.base.keep b o e n hb hx)
  ·obtain⟨sl,e1⟩:=I.base.slot b o e n hb hx;exact⟨sl,(hs.2 b<|vn<|kM (vf e) I.ok.above).trans e1⟩
  ·obtain⟨o',e1⟩:=I.base.there b o e hx;exact⟨o',(hs.2 b<|vn<|kM (vf e) I.ok.above).trans e1⟩
  ·by_cases hj:j=i
   ·subst hj;rw[hi] at e1;cases e1;rw[vz hiσ] at e2;cases e2;exact⟨u,r,.inl ⟨hk,by simp⟩⟩
   ·rw[vw<|Ne.symm hj] at e2;obtain⟨u',r',q⟩:=hl j y v' e1 e2 e3;refine⟨u',r',?_⟩;rcases q with ⟨k,e⟩|⟨k,c,e,z⟩
    ·refine .inl ⟨k,?_⟩;have:y≠x:=fun e=>hj (z2E hN e1 (e▸hi))
     simp[this,e]
    ·exact .inr ⟨k,c,e,z.sameBut hs<|cne y c e⟩
  ·obtain⟨w',z⟩:=I.cell y c e;exact⟨w',z.sameBut hs<|cne y c e⟩
  ·obtain⟨e,n,ne,nf,d⟩:=I.pin p hp;exact⟨(hs.2 p.1 ne).trans e,n,ne,nf,d⟩
 ·have hfn:X.fn x=true:=by
   rcases hf with z|z
   ·exact z
   ·rw[z] at hk;cases hk
  obtain⟨c,hc⟩:=I.ok.has x (.inl hk);obtain⟨w',z⟩:=I.cell x c hc;refine wpAny_storeName_cell I.ok.kind hk hc z (fun h' hc' hs=>?_);obtain⟨oc,hoc,hocd⟩:=id z;refine h {s with heap:=h'} ⟨I.ok,I.os,I.bare,⟨fun b o e n hb hx=>?_,fun b o e n hb hx=>?_,I.base.free,fun b o e hx=>?_,I.base.tups,I.base.frzs,I.base.tbls⟩,⟨m,hn.sameBut hs<|Ne.symm<|cne x c hc,fun j y v' e1 e2 e3=>?_⟩,fun y c' e=>?_,I.free,I.freeC,fun p hp=>?_,tracked ⟨oc,hoc,I.freeC x c hc⟩ hs,by simpa using I.len⟩ ⟨c,hs,.inr hc⟩
  ·exact (hs.2 b<|vn<|kM (vf e)<|I.ok.cab x c hfn hc).trans (I.base.keep b o e n hb hx)
  ·obtain⟨sl,e1⟩:=I.base.slot b o e n hb hx;exact⟨sl,(hs.2 b<|vn<|kM (vf e)<|I.ok.cab x c hfn hc).trans e1⟩
  ·obtain⟨o',e1⟩:=I.base.there b o e hx;exact⟨o',(hs.2 b<|vn<|kM (vf e)<|I.ok.cab x c hfn hc).trans e1⟩
  ·by_cases hj:j=i
   ·subst hj;rw[hi] at e1;cases e1;rw[vz hiσ] at e2;cases e2;exact⟨u,r,.inr ⟨.inl hk,c,hc,hc'⟩⟩
   ·rw[vw<|Ne.symm hj] at e2;obtain⟨u',r',q⟩:=hl j y v' e1 e2 e3;refine⟨u',r',?_⟩;rcases q with q|⟨k,c',e,z'⟩
    ·exact .inl q
    ·refine .inr ⟨k,c',e,z'.sameBut hs ?_⟩;rintro rfl;exact hj (z2E hN e1 (I.ok.inj _ _ _ e hc▸hi))
  ·by_cases hcc:c'=c
   ·subst hcc;exact⟨_,hc'⟩
   ·obtain⟨w2,z2⟩:=I.cell y c' e;exact⟨w2,z2.sameBut hs hcc⟩
  ·obtain⟨e,n,ne,nf,d⟩:=I.pin p hp;refine⟨(hs.2 p.1 ?_).trans e,n,ne,nf,d⟩;intro q;rw[q,hoc] at e;have q':oc=p.2:=kC e;exact d w' (by rw[<-q'];exact hocd)
def ZL{M:Model}{A:Around}{E:Ab->Ac->Prop}{i:Nat}{x:Str}{v:V}{u:Ab}{Q:Unit->Ac->Prop}(I:Inv X vY σ H s)(hN:X.N.Nodup)(hi:X.N[i]?=some x)(hx:Loc X.env.scope x)(r:RelV v u)(h:∀s',Inv X vY (σ.set i<|some v) H s'->Q () s')(hf:X.fn x=true\/X.env.scope.names.lookup x=some .local:=by first|exact .inl rfl|exact .inr rfl|assumption):wpAny M A (storeName X.env x u) Q E s:=
 QV I hN hi hx r (fun s' I' _=>h s' I') hf
def Inv.call'{s':Ac}{ch:List Aa}(I:Inv X vY σ H s)(ho:s'.os=s.os)(u:Un (frs X.stack) ch H H' s.heap s'.heap)(hok:HOk X.prog X.w H' s'.heap)(hg:AllBare s'.gens)(hch:∀b∈ch,(b∈X.ex\/X.s₀.heap.objs.size<=b)/\b≠X.env.locals/\(∀x c,X.env.cells.lookup x=some c->c≠b)/\∀p∈X.pn++vY,p.1≠b):Inv X vY σ H' s':=by
 obtain⟨h',g',d',t',o'⟩:=s';have e:o'=s.os:=ho;subst e;exact I.call (g':=g') (t':=t') (d':=d') u hok hg hch
end
abbrev XK:=Ab->Option Aa->Hp->Prop
abbrev St:=List (Option V)
abbrev VK:=V->Hp->Prop
abbrev TE:=St->Hp->VK->Prop
abbrev TT:=St->Hp->(Bool->Hp->Prop)->Prop
abbrev TA:=St->Hp->(List V->Hp->Prop)->Prop
structure Ends where
 nx:St->Hp->Prop
 rt:VK
 bk:St->Hp->Prop:=fun _ _=>False
 ct:St->Hp->Prop:=fun _ _=>False
abbrev TS:=Ends->St->Hp->Prop
def EP(X:Cx)(vY:List (Aa × Obj))(σ:St)(Q:VK)(u:Ab)(s':Ac):Prop:=∃v H',Inv X vY σ H' s'/\RelV v u/\Q v H'
def TP(X:Cx)(vY:List (Aa × Obj))(σ:St)(Q:Bool->Hp->Prop)(b:Bool)(s':Ac):Prop:=∃H',Inv X vY σ H' s'/\Q b H'
def AP(X:Cx)(vY:List (Aa × Obj))(σ:St)(Q:List V->Hp->Prop)(us:List Ab)(s':Ac):Prop:=∃vs H',Inv X vY σ H' s'/\Vals vs us/\Q vs H'
def SP(X:Cx)(vY:List (Aa × Obj))(D:Ends)(f:Flow)(s':Ac):Prop:=
 match f with
|.next=>∃σ' H',Inv X vY σ' H' s'/\D.nx σ' H'
|.brk=>∃σ' H',Inv X vY σ' H' s'/\D.bk σ' H'
|.cont=>∃σ' H',Inv X vY σ' H' s'/\D.ct σ' H'
|.ret u=>∃v σ' H',Inv X vY σ' H' s'/\RelV v u/\D.rt v H'
def PE(X:Cx)(e:Expr)(t:TE):Prop:=
 ∀(vY:List (Aa × Obj))(s:Ac)(σ:St)(H:Hp)(Q:VK),Inv X vY σ H s->t σ H Q->wpAny (model X.prog X.w) X.A (eval e X.env) (EP X vY σ Q) X.xe s
def PT(X:Cx)(e:Expr)(t:TT):Prop:=
 ∀(vY:List (Aa × Obj))(s:Ac)(σ:St)(H:Hp)(Q:Bool->Hp->Prop),Inv X vY σ H s->t σ H Q->wpAny (model X.prog X.w) X.A (isTrue e X.env<|eval e X.env) (TP X vY σ Q) X.xe s
def PW(X:Cx)(e:Expr)(t:TT):Prop:=
 ∀(whole:Sem Ab)(vY:List (Aa × Obj))(s:Ac)(σ:St)(H:Hp)(Q:Bool->Hp->Prop),Inv X vY σ H s->t σ H Q->wpAny (model X.prog X.w) X.A (isTrue e X.env whole) (TP X vY σ Q) X.xe s
def PW.pt{X:Cx}{e:Expr}{t:TT}(h:PW X e t):PT X e t:=h _
def PA(X:Cx)(es:List Expr)(t:TA):Prop:=
 ∀(pos:Pos)(vY:List (Aa × Obj))(s:Ac)(σ:St)(H:Hp)(Q:List V->Hp->Prop),Inv X vY σ H s->t σ H Q->wpAny (model X.prog X.w) X.A (spliced<|backTo pos<|starEach es X.env) (AP X vY σ Q) X.xe s
def PS(X:Cx)(st:Stmt)(t:TS):Prop:=
 ∀(vY:List (Aa × Obj))(s:Ac)(σ:St)(H:Hp)(D:Ends),Inv X vY σ H s->t D σ H->wpAny (model X.prog X.w) X.A (exec st X.env) (SP X vY D) X.xe s
def PSs(X:Cx)(st:List Stmt)(t:TS):Prop:=
 ∀(vY:List (Aa × Obj))(s:Ac)(σ:St)(H:Hp)(D:Ends),Inv X vY σ H s->t D σ H->wpAny (model X.prog X.w) X.A (execs st X.env) (SP X vY D) X.xe s
def thn{α:Type}{t:Sem α}{Q Q':α->Ac->Prop}{M:Model}{A:Around}{E:Ab->Ac->Prop}{s:Ac}(h:wpAny M A t Q E s)(hQ:∀a s,Q a s->Q' a s):wpAny M A t Q' E s:=vM h hQ fun _ _ x=>x
section
variable {X:Cx}
def tVar(i:Nat):TE:=fun σ H Q=>(σ[i]?).join.elim False fun v=>Q v H
def z5P{i:Nat}{σ:St}{H:Hp}{Q:VK}{v:V}(e:σ[i]?=some (some v))(h:Q v H):tVar i σ H Q:=by
 unfold tVar;rw[e];exact h
def z9o{i:Nat}{σ:St}{H:Hp}{Q:VK}(h:tVar i σ H Q):∃v,σ[i]?=some (some v)/\Q v H:=by
 unfold tVar at h;cases e:σ[i]? with
|none=>rw[e] at h;exact h.elim
|some o=>
  rw[e] at h;cases o with
 |none=>exact h.elim
 |some v=>exact⟨v,rfl,h⟩
abbrev tC(v:V):TE:=fun _ H Q=>Q v H
def z7w{i:Nat}{x:Str}{pos:Pos}(hN:X.N[i]?=some x)(hv:Vis X.env.scope x)(hd:autoParam ((x == ("__debug__":Str))=false) aR._auto_2)(hcd:autoParam ((x == ("__classdict__":Str))=false) aR._auto_2):PE X (.Name x pos) (tVar i):=by
 intro vY s σ H Q I h;obtain⟨v,e,h⟩:=z9o h;obtain⟨m,hn,hl⟩:=I.loc;obtain⟨u,r,l⟩:=hl i x v hN e hv;have fin:EP X vY σ Q u s:=⟨v,H,I,r,h⟩
 rcases l with ⟨hk,hm⟩|⟨hk,c,hc,hcell⟩
 ·exact wpAny_Name (wpAny_loadName_local I.ok.kind hk hn hm fin) hd
 ·rcases hk with hk|hk
  ·exact wpAny_Name (wpAny_loadName_cell I.ok.kind hk hc hcell fin) hd
  ·exact wpAny_Name (wpAny_loadName_free I.ok.kind hk hc hcell fin hcd) hd
def z39(i:Nat):TE:=fun σ H Q=>∃v,σ[i]?=some (some v)/\Q v H
def PE.x{i:Nat}{e:Expr}(h:PE X e (tVar i)):PE X e (z39 i):=fun vY s σ H Q I q=>h vY s σ H Q I (by obtain⟨v,a,b⟩:=q;exact z5P a b)
def zb{i j pos}:PE X (.Constant (.int i) j pos) (tC<|.int i):=fun _ _ _ H _ I h=>wpAny_Constant_int ⟨.int i,H,I.tok _,⟨_,rfl⟩,h⟩
def Z2{b j pos}:PE X (.Constant (.bool b) j pos) (tC<|.bl b):=fun _ _ _ H _ I h=>Constant_bool ⟨.bl b,H,I,rfl,h⟩
def qR{j pos}:PE X (.Constant .none j pos) (tC .non):=fun _ _ _ H _ I h=>Constant_none ⟨.non,H,I,rfl,h⟩
def zh{x j pos}:PE X (.Constant (.str x) j pos) (tC<|.str x):=fun _ _ _ H _ I h=>Calls.Constant_str ⟨.str x,H,I.tok _,⟨_,rfl⟩,h⟩
def Gl(X:Cx)(x:Str):Prop:=X.env.kindOf x=some .globalImplicit
def ZD{E:Ab->Ac->Prop}{vY:List (Aa × Obj)}{s:Ac}{σ:St}{H:Hp}{x:Str}{u:Ab}{pos:Pos}{Q:Ab->Ac->Prop}(I:Inv X vY σ H s)(hg:Gl X x)(hm:X.mg x=some u)(h:Q u s)(hd:autoParam ((x == ("__debug__":Str))=false) aR._auto_2):wpAny (model X.prog X.w) X.A (eval (.Name x pos) X.env) Q E s:=
 Calls.Name_function_global I.ok.kind hg (Calls.loadGlobal_global (by rw[I.ok.glob];exact I.mod.glob.keeps I.bk) hm h) hd
def Je{E:Ab->Ac->Prop}{vY:List (Aa × Obj)}{s:Ac}{σ:St}{H:Hp}{x:Str}{u:Ab}{pos:Pos}{Q:Ab->Ac->Prop}(I:Inv X vY σ H s)(hg:Gl X x)(hm:X.mg x=none)(hv:bootBuiltins x=some u)(h:Q u s)(hn:autoParam (x≠"__name__") aR._auto_2)(hd:autoParam ((x == ("__debug__":Str))=false) aR._auto_2):wpAny (model X.prog X.w) X.A (eval (.Name x pos) X.env) Q E s:=by
 obtain⟨mb,h1,h2⟩:=I.mod.blt;exact Calls.Name_function_global I.ok.kind hg (Calls.loadGlobal_builtin (by rw[I.ok.glob];exact I.mod.glob.keeps I.bk) hm (by rw[I.ok.blt];exact h1.keeps I.bk) ((h2 x hn).trans hv) h) hd
def Z1{x:Str}{v:V}{u:Ab}{pos:Pos}(hg:Gl X x)(hm:X.mg x=some u)(r:RelV v u)(hd:autoParam ((x == ("__debug__":Str))=false) aR._auto_2):PE X (.Name x pos) (tC v):=
 fun _ _ _ H _ I h=>ZD I hg hm ⟨v,H,I,r,h⟩ hd
def z8c{x:Str}{v:V}{u:Ab}{pos:Pos}(hg:Gl X x)(hm:X.mg x=none)(hv:bootBuiltins x=some u)(r:RelV v u)(hn:autoParam (x≠"__name__") aR._auto_2)(hd:autoParam ((x == ("__debug__":Str))=false) aR._auto_2):PE X (.Name x pos) (tC v):=
 fun _ _ _ H _ I h=>Je I hg hm hv ⟨v,H,I,r,h⟩ hn hd
variable {a b:Expr}{ta tb:TE}{pos:Pos}
def PC(X:Cx)(op:CmpOp)(a b:Expr)(t:TE):Prop:=
 ∀(vY:List (Aa × Obj))(s:Ac)(σ:St)(H:Hp)(Q:VK),Inv X vY σ H s->t σ H Q->
  wpAny (model X.prog X.w) X.A (eval a X.env) (fun v s₁=>wpAny (model X.prog X.w) X.A (eval b X.env) (fun u s₂=>wpAny (model X.prog X.w) X.A (compareOp op v u) (EP X vY σ Q) X.xe s₂) X.xe s₁) X.xe s
def tB(t:TE):TT:=fun σ H Q=>t σ H fun x H1=>∃c,x=.bl c/\Q c H1
def z7x{op:CmpOp}{t:TE}(h:PC X op a b t)(h1:behindInMarks op b=false:=by first|exact nobehind _ (by decide) (by decide)|rfl):PE X (.Compare a [op] [b] pos) t:=fun vY s σ H Q I hw=>wpAny_Compare1 (h vY s σ H Q I hw) h1
def qH{e:Expr}{t:TE}(h:PE X e t)(he:∀whole,isTrue e X.env whole=(do let v <-whole;standAt e.pos;holding [v] (truthy v)):=by intro _;rfl):PT X e (tB t):=by
 intro vY s σ H Q I hw;refine isTrue_plain (thn (h vY s σ H _ I hw) fun v s1 ⟨x,H1,I1,r1,q1⟩=>?_) (he _);obtain⟨d,rfl,q⟩:=q1;cases r1;exact vE ⟨H1,I1,q⟩
variable {tA tB':TT}{rest:List Expr}
def tAnd(t u:TT):TT:=fun σ H Q=>t σ H fun c H1=>if c=true then u σ H1 Q else Q false H1
def tOr(t u:TT):TT:=fun σ H Q=>t σ H fun c H1=>if c=true then Q true H1 else u σ H1 Q
def tNot(t:TT):TT:=fun σ H Q=>t σ H fun c H1=>Q (!c) H1
def z06(ha:PT X a tA):PW X (.BoolOp .And [a] pos) tA:=by
 intro wh vY s σ H Q I h;refine isTrue_and (thn (ha vY s σ H Q I h) fun c s1 e=>?_);cases c with
|true=>exact isTrue_and_nil e
|false=>exact e
def Zu(ha:PT X a tA):PW X (.BoolOp .Or [a] pos) tA:=by
 intro wh vY s σ H Q I h;refine isTrue_or (thn (ha vY s σ H Q I h) fun c s1 e=>?_);cases c with
|false=>exact isTrue_or_nil e
|true=>exact e
def z2w(ha:PT X a tA)(hb:PW X (.BoolOp .And (b::rest) pos) tB'):PW X (.BoolOp .And (a::b::rest) pos) (tAnd tA tB'):=by
 intro wh vY s σ H Q I h;refine isTrue_and (thn (ha vY s σ H _ I h) fun c s1 zz=>?_);obtain⟨H1,I1,q1⟩:=zz;cases c with
|true=>exact hb wh vY s1 σ H1 Q I1 q1
|false=>exact⟨H1,I1,q1⟩
def QZ(ha:PT X a tA)(hb:PW X (.BoolOp .Or (b::rest) pos) tB'):PW X (.BoolOp .Or (a::b::rest) pos) (tOr tA tB'):=by
 intro wh vY s σ H Q I h;refine isTrue_or (thn (ha vY s σ H _ I h) fun c s1 zz=>?_);obtain⟨H1,I1,q1⟩:=zz;cases c with
|true=>exact⟨H1,I1,q1⟩
|false=>exact hb wh vY s1 σ H1 Q I1 q1
def jw(ha:PT X a tA):PT X (.UnaryOp .Not a pos) (tNot tA):=by
 intro vY s σ H Q I h;exact isTrue_not (ha vY s σ H (fun c H1=>Q (!c) H1) I h)
def zbi(ta tb:TE):TE:=fun σ H Q=>ta σ H fun x H1=>∃c,x=.bl c/\if c=true then tb σ H1 Q else Q (.bl false) H1
def tOrV(ta tb:TE):TE:=fun σ H Q=>ta σ H fun x H1=>∃c,x=.bl c/\if c=true then Q (.bl true) H1 else tb σ H1 Q
def zbd(ta:TE):TE:=fun σ H Q=>ta σ H fun x H1=>∃c,x=.bl c/\Q (.bl<|!c) H1
def qZ{op}{t:TE}(h:PE X a t):PE X (.BoolOp op [a] pos) t:=fun vY s σ H Q I hw=>BoolOp_one (h vY s σ H Q I hw)
def qS(ha:PE X a ta)(hb:PE X (.BoolOp .And (b::rest) pos) tb):PE X (.BoolOp .And (a::b::rest) pos) (zbi ta tb):=by
 intro vY s σ H Q I h;refine BoolOp_and (thn (ha vY s σ H _ I h) fun v s1 zz=>?_);obtain⟨x,H1,I1,r1,q1⟩:=zz;obtain⟨c,rfl,q1⟩:=q1;cases r1;refine vE ?_;cases c with
|true=>exact hb vY s1 σ H1 Q I1 q1
|false=>exact⟨.bl false,H1,I1,rfl,q1⟩
def z9Z(ha:PE X a ta)(hb:PE X (.BoolOp .Or (b::rest) pos) tb):PE X (.BoolOp .Or (a::b::rest) pos) (tOrV ta tb):=by
 intro vY s σ H Q I h;refine BoolOp_or (thn (ha vY s σ H _ I h) fun v s1 zz=>?_);obtain⟨x,H1,I1,r1,q1⟩:=zz;obtain⟨c,rfl,q1⟩:=q1;cases r1;refine vE ?_;cases c with
|false=>exact hb vY s1 σ H1 Q I1 q1
|true=>exact⟨.bl true,H1,I1,rfl,q1⟩
def za0(ha:PE X a ta):PE X (.UnaryOp .Not a pos) (zbd ta):=by
 intro vY s σ H Q I h;refine UnaryOp_ (thn (ha vY s σ H _ I h) fun v s1 zz=>?_);obtain⟨x,H1,I1,r1,q1⟩:=zz;obtain⟨c,rfl,q1⟩:=q1;cases r1;exact not_of (vE ⟨.bl<|!c,H1,I1,rfl,q1⟩)
def tIf(t:TT)(ta tb:TE):TE:=fun σ H Q=>t σ H fun c H1=>if c=true then ta σ H1 Q else tb σ H1 Q
def j9{c:Expr}(hc:PT X c tA)(ha:PE X a ta)(hb:PE X b tb):PE X (.IfExp c a b pos) (tIf tA ta tb):=by
 intro vY s σ H Q I h;refine wpAny_IfExp (thn (hc vY s σ H _ I h) fun d s1 zz=>?_);obtain⟨H1,I1,q1⟩:=zz;cases d with
|true=>exact ha vY s1 σ H1 Q I1 q1
|false=>exact hb vY s1 σ H1 Q I1 q1
end
def SqL(K:ku)(H:Hp)(a:Aa)(xs:List V):Prop:=
 Rd H a (.lst xs)\/
  ∃(o:Obj)(its:Array Ab)(n:Nat),K.lookup a=some o/\o.cls=.type "list"/\o.dict=none/\o.data=.seq its n/\its.size<=sizeLine/\Vals xs its.toList
def SqT(K:ku)(H:Hp)(a:Aa)(xs:List V):Prop:=
 Rd H a (.tup xs)\/
  ∃(o:Obj)(its:Array Ab)(n:Nat),K.lookup a=some o/\o.cls=.type "tuple"/\o.data=.seq its n/\its.size<=sizeLine/\Vals xs its.toList
noncomputable def absV:Ab->Option V
|.none=>some .non
|.bool b=>some (.bl b)
|.int i _=>some (.int i)
|.str x _=>some (.str x)
|.bytes b _=>some (.byt b)
|.float b _=>some (.flt b)
|.ref a=>some (.ref a)
|.type n=>some (.ty n)
|_=>none
def RelV.abs{x:V}{u:Ab}(r:RelV x u):absV u=some x:=by
 cases x with
|non=>cases r;rfl
|bl _=>cases r;rfl
|int _=>obtain⟨t,rfl⟩:=r;rfl
|str _=>obtain⟨t,rfl⟩:=r;rfl
|byt _=>obtain⟨t,rfl⟩:=r;rfl
|flt _=>obtain⟨t,rfl⟩:=r;rfl
|ref _=>cases r;rfl
|ty _=>cases r;rfl
def RelV.inj{x y:V}{u:Ab}(r:RelV x u)(q:RelV y u):x=y:=kC (r.abs.symm.trans q.abs)
def Vals.inj:∀{xs ys:List V}{us:List Ab},Vals xs us->Vals ys us->xs=ys
|_,_,_,.nil,.nil=>rfl
|_,_,_,.cons r t,.cons r' t'=>by rw[r.inj r',Vals.inj t t']
section
variable {X:Cx}{vY:List (Aa × Obj)}{σ:St}{H:Hp}{s:Ac}{a:Aa}{xs ys:List V}
def SqL.of{K:ku}(h:H a=some (.lst xs)):SqL K H a xs:=.inl (.inl h)
def SqT.of{K:ku}(h:H a=some (.tup xs)):SqT K H a xs:=.inl (.inl h)
def Inv.list(I:Inv X vY σ H s)(h:SqL X.K H a xs):∃its:List Ab,Vals xs its/\PlainL s.heap a its.toArray/\xs.length<=sizeLine:=by
 rcases h with h|⟨o,its,n,hk,hc,hd,hs,hz,r⟩
 ·obtain⟨z,its,n,r,e⟩:=h.ok I.hok;exact⟨its,r,⟨_,n,e,rfl,rfl,rfl⟩,z⟩
 ·refine⟨its.toList,r,⟨o,n,I.kIn a o hk,hc,hd,by simpa using hs⟩,?_⟩;have e:=r.length;simp only[Array.length_toList] at e;lia
def Inv.tuple(I:Inv X vY σ H s)(h:SqT X.K H a xs):∃its:List Ab,Vals xs its/\IsTup s.heap a its.toArray/\xs.length<=sizeLine:=by
 rcases h with h|⟨o,its,n,hk,hc,hs,hz,r⟩
 ·obtain⟨z,its,r,p⟩:=h.ok I.hok;exact⟨its,r,p,z⟩
 ·refine⟨its.toList,r,⟨o,I.kIn a o hk,hc,n,by simpa using hs⟩,?_⟩;have e:=r.length;simp only[Array.length_toList] at e;lia
def Inv.list_inj(I:Inv X vY σ H s)(h:SqL X.K H a xs)(h':SqL X.K H a ys):xs=ys:=by
 obtain⟨its,r,⟨o,n,e,_,_,d⟩,_⟩:=I.list h;obtain⟨its',r',⟨o',n',e',_,_,d'⟩,_⟩:=I.list h';rw[e] at e';cases e';rw[d] at d';injection d' with d1 _
 have:its=its':=by simpa using vI Array.toList d1
 subst this;exact r.inj r'
def Inv.tuple_inj(I:Inv X vY σ H s)(h:SqT X.K H a xs)(h':SqT X.K H a ys):xs=ys:=by
 obtain⟨its,r,⟨o,e,_,n,d⟩,_⟩:=I.tuple h;obtain⟨its',r',⟨o',e',_,n',d'⟩,_⟩:=I.tuple h';rw[e] at e';cases e';rw[d] at d';injection d' with d1 _
 have:its=its':=by simpa using vI Array.toList d1
 subst this;exact r.inj r'
end
noncomputable abbrev Cx.wish(X:Cx)(E:Ab->Ac->Prop):Cx:={X with xe:=E}
noncomputable abbrev Cx.nox(X:Cx):Cx:=X.wish fun _ _=>False
def Cx.Ok.wish{X:Cx}(ok:X.Ok)(E:Ab->Ac->Prop):(X.wish E).Ok:=
 ⟨ok.mod,ok.kind,ok.glob,ok.blt,ok.above,ok.inj,ok.has,ok.cab,ok.hd,ok.frames,ok.stk,ok.exf,ok.bs,ok.bsz,ok.noex,ok.exfs,ok.funs,ok.frf⟩
def Cx.Ok.unwish{X:Cx}{E:Ab->Ac->Prop}(ok:(X.wish E).Ok):X.Ok:=
 ⟨ok.mod,ok.kind,ok.glob,ok.blt,ok.above,ok.inj,ok.has,ok.cab,ok.hd,ok.frames,ok.stk,ok.exf,ok.bs,ok.bsz,ok.noex,ok.exfs,ok.funs,ok.frf⟩
section
variable {X:Cx}{vY:List (Aa × Obj)}{σ:St}{H:Hp}{s:Ac}{E:Ab->Ac->Prop}
def Inv.wish(I:Inv X vY σ H s)(E:Ab->Ac->Prop):Inv (X.wish E) vY σ H s:=⟨I.ok.wish E,I.os,I.bare,I.base,I.loc,I.cell,I.free,I.freeC,I.pin,I.hok,I.len⟩
def Inv.unwish(I:Inv (X.wish E) vY σ H s):Inv X vY σ H s:=⟨I.ok.unwish,I.os,I.bare,I.base,I.loc,I.cell,I.free,I.freeC,I.pin,I.hok,I.len⟩
def SP.unwish{D:Ends}{f:Flow}{s':Ac}(h:SP (X.wish E) vY D f s'):SP X vY D f s':=by
 cases f with
|next=>obtain⟨σ',H',I,q⟩:=h;exact⟨σ',H',I.unwish,q⟩
|brk=>obtain⟨σ',H',I,q⟩:=h;exact⟨σ',H',I.unwish,q⟩
|cont=>obtain⟨σ',H',I,q⟩:=h;exact⟨σ',H',I.unwish,q⟩
|ret u=>obtain⟨v,σ',H',I,r,q⟩:=h;exact⟨v,σ',H',I.unwish,r,q⟩
def PSs.nox{st:List Stmt}{t:TS}(h:PSs X.nox st t):PSs X st t:=fun vY s σ H D I hw=>
 vM (h vY s σ H D (I.wish _) hw) (fun _ _ q=>q.unwish) fun _ _ z=>False.elim z
end
section
variable {X:Cx}{st:Stmt}{rest:List Stmt}{t u:TS}{e:Expr}{te:TE}{pos:Pos}
def zbe:TS:=fun D σ H=>D.nx σ H
def tSeq(t u:TS):TS:=fun D σ H=>t {D with nx:=u D} σ H
def zC:PSs X [] zbe:=fun _ _ σ H _ I h=>wpAny_execs_nil ⟨σ,H,I,h⟩
def z6(h1:PS X st t)(h2:PSs X rest u):PSs X (st::rest) (tSeq t u):=by
 intro vY s σ H D I h;refine wpAny_execs_cons (thn (h1 vY s σ H {D with nx:=u D} I h) fun f s1 q=>?_);cases f with
|next=>
  obtain⟨σ',H',I',q⟩:=q;exact h2 vY s1 σ' H' D I' q
|ret v=>exact q
|brk=>exact q
|cont=>exact q
def z8(h1:PS X st t):PSs X [st] t:=by
 intro vY s σ H D I h;refine wpAny_execs_cons (thn (h1 vY s σ H D I h) fun f s1 q=>?_);cases f with
|next=>exact wpAny_execs_nil q
|ret v=>exact q
|brk=>exact q
|cont=>exact q
def Inv.quiet{vY:List (Aa × Obj)}{σ:St}{H:Hp}{s:Ac}(I:Inv X vY σ H s):interactive X.env=false:=by simp[interactive,I.ok.kind]
def z9u(te:TE):TS:=fun D σ H=>te σ H fun _ H1=>D.nx σ H1
def zi(he:PE X e te)(hs:autoParam (swapsWith e none pos.line X.env=pure false) aR._auto_1):PS X (.Expr e pos) (z9u te):=by
 intro vY s σ H D I h;exact wpAny_Expr_any (thn (he vY s σ H _ I h) fun v s1 ⟨x,H1,I1,r1,q1⟩=>⟨σ,H1,I1,q1⟩) I.quiet hs
def tRet(te:TE):TS:=fun D σ H=>te σ H D.rt
def zl(he:PE X e te):PS X (.Return (some e) pos) (tRet te):=by
 intro vY s σ H D I h;exact wpAny_Return_some (thn (he vY s σ H _ I h) fun v s1 ⟨x,H1,I1,r1,q1⟩=>⟨x,σ,H1,I1,r1,q1⟩)
def tIfS(c:TT)(t u:TS):TS:=fun D σ H=>c σ H fun b H1=>if b=true then t D σ H1 else u D σ H1
def zV{c:Expr}{a b:List Stmt}{tc:TT}(hc:PT X c tc)(ha:PSs X a t)(hb:PSs X b u):PS X (.If c a b pos) (tIfS tc t u):=by
 intro vY s σ H D I h;refine wpAny_If (thn (hc vY s σ H _ I h) fun d s1 zz=>?_);obtain⟨H1,I1,q1⟩:=zz;cases d with
|true=>exact ha vY s1 σ H1 D I1 q1
|false=>exact hb vY s1 σ H1 D I1 q1
def z9q:TS:=fun _ _ _=>False
def jQ{sts:List Stmt}:PSs X sts z9q:=fun _ _ _ _ _ _ h=>h.elim
end
abbrev TG:=V->St->Hp->(St->Hp->Prop)->Prop
abbrev TGs:=List V->St->Hp->(St->Hp->Prop)->Prop
def PG(X:Cx)(target:Expr)(t:TG):Prop:=
 ∀(vY:List (Aa × Obj))(s:Ac)(σ:St)(H:Hp)(v:V)(u:Ab)(Q:St->Hp->Prop),Inv X vY σ H s->RelV v u->t v σ H Q->
  wpAny (model X.prog X.w) X.A (assign target X.env u) (fun _ s'=>∃σ' H',Inv X vY σ' H' s'/\Q σ' H') X.xe s
def PGs(X:Cx)(ts:List Expr)(t:TGs):Prop:=
 ∀(vY:List (Aa × Obj))(s:Ac)(σ:St)(H:Hp)(vs:List V)(us:List Ab)(Q:St->Hp->Prop),Inv X vY σ H s->Vals vs us->t vs σ H Q->
  wpAny (model X.prog X.w) X.A (assignInOrder ((assignEach ts X.env).map (·.2)) us) (fun _ s'=>∃σ' H',Inv X vY σ' H' s'/\Q σ' H') X.xe s
abbrev TSet:=V->V->V->Hp->(Hp->Prop)->Prop
def PSet(X:Cx)(t:TSet):Prop:=
 ∀(vY:List (Aa × Obj))(s:Ac)(σ:St)(H:Hp)(o i v:V)(ov iv u:Ab)(Q:Hp->Prop),Inv X vY σ H s->RelV o ov->RelV i iv->RelV v u->t o i v H Q->
  wpAny (model X.prog X.w) X.A (setItem ov iv u) (fun _ s'=>∃H',Inv X vY σ H' s'/\Q H') X.xe s
abbrev TIp:=V->V->Hp->VK->Prop
def PIp(X:Cx)(op:Operator)(t:TIp):Prop:=
 ∀(vY:List (Aa × Obj))(s:Ac)(σ:St)(H:Hp)(x y:V)(v u:Ab)(Q:VK),Inv X vY σ H s->RelV x v->RelV y u->t x y H Q->
  wpAny (model X.prog X.w) X.A (inplaceOp op v u) (EP X vY σ Q) X.xe s
section
variable {X:Cx}{pos:Pos}
def Qm(i:Nat):TG:=fun v σ H Q=>Q (σ.set i<|some v) H
def ZB{i:Nat}{x:Str}(hN:X.N.Nodup)(hi:X.N[i]?=some x)(hx:Loc X.env.scope x)(hf:X.fn x=true\/X.env.scope.names.lookup x=some .local:=by first|exact .inl rfl|exact .inr rfl|assumption):PG X (.Name x pos) (Qm i):=by
 intro vY s σ H v u Q I r h;exact wpAny_assign_Name (ZL I hN hi hx r (fun s' I'=>⟨_,H,I',h⟩) hf)
def gNil:TGs:=fun vs σ H Q=>vs=[]/\Q σ H
inductive zaH(t:TG)(u:TGs)(vs:List V)(σ:St)(H:Hp)(Q:St->Hp->Prop):Prop
|mk (v:_) (r:_):vs=v::r->(t v σ H fun σ' H'=>u r σ' H' Q)->zaH t u vs σ H Q
def qt:PGs X [] gNil:=by
 intro vY s σ H vs us Q I r h;obtain⟨e,h⟩:=h;subst e;cases r;exact assignInOrder_nil ⟨σ,H,I,h⟩
def zu{e:Expr}{es:List Expr}{t:TG}{u:TGs}(h1:PG X e t)(h2:PGs X es u)(hs:autoParam ((assignEach (e::es) X.env).map (·.2)=assign e X.env::(assignEach es X.env).map (·.2)) aR._auto_1):PGs X (e::es) (zaH t u):=by
 intro vY s σ H vs us Q I r h;obtain⟨v,vr,e1,h⟩:=h;subst e1;cases r with
|cons r rr=>
  rw[hs];refine assignInOrder_cons (thn (h1 vY s σ H _ _ _ I r h) fun _ s1 zz=>?_);obtain⟨σ1,H1,I1,q1⟩:=zz;exact h2 vY s1 σ1 H1 _ _ Q I1 rr q1
inductive gTup(K:ku)(n:Nat)(t:TGs)(v:V)(σ:St)(H:Hp)(Q:St->Hp->Prop):Prop
|mk (a:_) (xs:_):v=.ref a->SqT K H a xs->xs.length=n->t xs σ H Q->gTup K n t v σ H Q
def Z7{es:List Expr}{k:Nat}{t:TGs}{n:Nat}(hc:X.calm=true)(h:PGs X es t)(hn:autoParam ((assignEach es X.env).length=n) aR._auto_1)(hst:autoParam ((assignEach es X.env).findIdx? (·.1)=none) aR._auto_1):PG X (.Tuple es k pos) (gTup X.K n t):=by
 intro vY s σ H v u Q I r hw;obtain⟨a,xs,e1,hq,hl,hw⟩:=hw;subst e1;cases r;obtain⟨its,rv,ht,hz⟩:=I.tuple hq;refine assign_Tuple_tuple (I.ok.hd hc) ht (by simp[hn,<-hl,rv.length]) hst fun h' hx=>?_
 have I1:Inv X vY σ H {s with heap:=h'}:=I.kept (t':=s.toks) fun b o e=>hx b o (vn<|vf e) e
 exact h vY _ σ H xs _ Q I1 (by simpa using rv) hw
def gSub(to ti:TE)(t:TSet):TG:=fun v σ H Q=>to σ H fun o H1=>ti σ H1 fun i H2=>t o i v H2 fun H3=>Q σ H3
def z0W{o i:Expr}{to ti:TE}{t:TSet}(ho:PE X o to)(hi:PE X i ti)(hs:PSet X t)(ha:∀v,assign (.Subscript o i pos) X.env v=(do
   let ov <-holding [v] (eval o X.env)
   let iv <-holding [v,ov] (eval i X.env)
   standAt pos
   holding [v,ov,iv] (setItem ov iv v)
   release [v,ov,iv] []):=by intro _;rfl):PG X (.Subscript o i pos) (gSub to ti t):=by
 intro vY s σ H v u Q I r h;rw[ha];refine va (wpAny_holding (thn (ho vY s σ H _ I h) fun ov s1 zz=>?_));obtain⟨x,H1,I1,r1,q1⟩:=zz;refine va (wpAny_holding (thn (hi vY s1 σ H1 _ I1 q1) fun iv s2 zz=>?_));obtain⟨y,H2,I2,r2,q2⟩:=zz;refine va (wpAny_standAt<|va<|wpAny_holding (thn (hs vY s2 σ H2 x y v ov iv u _ I2 r1 r2 r q2) fun _ s3 zz=>?_));obtain⟨H3,I3,q3⟩:=zz;exact wpAny_release ⟨σ,H3,I3,q3⟩
def tAsg(te:TE)(g:TG):TS:=fun D σ H=>te σ H fun x H1=>g x σ H1 D.nx
def Za{tg e:Expr}{te:TE}{g:TG}(he:PE X e te)(hg:PG X tg g)(hs:autoParam (swapsWithSole [tg] e pos.line X.env=pure false) aR._auto_1)(hw:autoParam (swappedStores [tg] e X.env=pure none) aR._auto_1)(h1:autoParam ((assignEach [tg] X.env).map (·.2)=[assign tg X.env]) aR._auto_1):PS X (.Assign [tg] e pos) (tAsg te g):=by
 intro vY s σ H D I h;refine wpAny_Assign_stores (thn (he vY s σ H _ I h) fun v s1 ⟨x,H1,I1,r1,q1⟩=>?_) hs hw;rw[h1];exact thn (hg vY s1 σ H1 x v _ I1 r1 q1) fun _ s2 q=>q
def jR{i:Nat}{x:Str}{e:Expr}{te:TE}{pos':Pos}(hN:X.N.Nodup)(hi:X.N[i]?=some x)(hx:Loc X.env.scope x)(he:PE X e te)(hs:autoParam (swapsWith e (some<|.Name x pos') pos.line X.env=pure false) aR._auto_1)(hf:X.fn x=true\/X.env.scope.names.lookup x=some .local:=by first|exact .inl rfl|exact .inr rfl|assumption):
  PS X (.Assign [.Name x pos'] e pos) (tAsg te<|Qm i):=by
 intro vY s σ H D I h;refine wpAny_Assign_Name (thn (he vY s σ H _ I h) fun v s1 ⟨y,H1,I1,r1,q1⟩=>?_) hs;exact ZL I1 hN hi hx r1 (fun s2 I2=>⟨_,H1,I2,q1⟩) hf
def tPar(i j:Nat)(ta:TA):TS:=fun D σ H=>ta σ H fun vs H1=>∃v w,vs=[v,w]/\D.nx ((σ.set i<|some v).set j<|some w) H1
def J0{i j:Nat}{x y:Str}{a b:Expr}{ta:TA}{px py pt:Pos}{kt k2 pt2}(hc:X.calm=true)(hN:X.N.Nodup)(hi:X.N[i]?=some x)(hj:X.N[j]?=some y)(hij:i≠j)(hx:X.env.scope.names.lookup x=some .local)(hy:X.env.scope.names.lookup y=some .local)(ha:PA X [a,b] ta)(hw:swappedStores [.Tuple [.Name x px,.Name y py] kt pt] (.Tuple [a,b] k2 pt2) X.env=pure (some [x,y]))(hs:autoParam (swapsWithSole [.Tuple [.Name x px,.Name y py] kt pt] (.Tuple [a,b] k2 pt2) pos.line X.env=pure false) aR._auto_1):
  PS X (.Assign [.Tuple [.Name x px,.Name y py] kt pt] (.Tuple [a,b] k2 pt2) pos) (tPar i j ta):=by
 intro vY s σ H D I h;rw[exec_Assign_arm];refine va (wpAny_standAt ?_);rw[hs];refine va (ve ?_);rw[ky<|by decide];refine va (Tuple_ (thn (ha _ vY s σ H _ I h) fun us s1 zz=>?_));obtain⟨vs,H1,I1,r1,q1⟩:=zz;obtain⟨v,w,e1,q1⟩:=q1;subst e1;obtain⟨u1,u2,rfl,rv,rw'⟩:∃u1 u2,us=[u1,u2]/\RelV v u1/\RelV w u2:=by
  cases r1 with
 |cons p q=>
   cases q with
  |cons p' q'=>
    cases q';exact⟨_,_,rfl,p,p'⟩
 refine vJ ?_ (vX);have I2:Inv X vY σ H1 {s1 with heap:=s1.heap.push {cls:=.type "tuple",data:=.seq [u1,u2].toArray} }:=I1.kept (t':=s1.toks) fun b o e=>vb _ e
 rw[hw];refine va (ve ?_);show wpAny (model X.prog X.w) X.A (do rule "assign.swapped-stores";let items <-unpackItems (.ref s1.heap.objs.size) 2 none;assignInOrder [fun v=>bindName X.env y v,fun v=>bindName X.env x v] items.reverse;pure Flow.next) _ _ _;refine va (wpAny_rule<|va (unpackItems_tuple (items:=#[u1,u2]) (I.ok.hd hc) (IsTup.new s1.heap _) fun h' hx'=>?_));have I3:=I2.kept (h':=h') (t':=s1.toks) fun b o e=>hx' b o (vn<|vf e) e
 show wpAny _ _ (assignInOrder [fun v=>bindName X.env y v,fun v=>bindName X.env x v] [u2,u1] >>= fun _=>pure Flow.next) _ _ _;refine va (assignInOrder_cons<|wpAny_bindName<|ZL I3 hN hj (.inl hy) rw' (fun s2 I4=>?_)<|.inr hy);refine assignInOrder_cons (wpAny_bindName<|ZL I4 hN hi (.inl hx) rv (fun s3 I5=>assignInOrder_nil<|ve ?_)<|.inr hx);rw[List.set_comm _ _<|Ne.symm hij] at I5;exact⟨_,H1,I5,q1⟩
def tAug(i:Nat)(te:TE)(ti:TIp):TS:=fun D σ H=>∃x,σ[i]?=some (some x)/\te σ H fun y H1=>ti x y H1 fun z H2=>D.nx (σ.set i<|some z) H2
def z9X{i:Nat}{x:Str}{e:Expr}{te:TE}{op:Operator}{ti:TIp}{pos':Pos}(hN:X.N.Nodup)(hi:X.N[i]?=some x)(hx:Loc X.env.scope x)(he:PE X e te)(ho:PIp X op ti)(hf:X.fn x=true\/X.env.scope.names.lookup x=some .local:=by first|exact .inl rfl|exact .inr rfl|assumption):
  PS X (.AugAssign (.Name x pos') op e pos) (tAug i te ti):=by
 intro vY s σ H D I h;obtain⟨v,e1,h⟩:=h;obtain⟨m,hn,hl⟩:=I.loc;have vis:Vis X.env.scope x:=by rcases hx with k|k;exact .inl k;exact .inr (.inl k)
 obtain⟨u,r,l⟩:=hl i x v hi e1 vis;refine wpAny_AugAssign_Name ?_;have go:wpAny (model X.prog X.w) X.A (eval e X.env) (fun w s₂=>wpAny (model X.prog X.w) X.A (inplaceOp op u w) (fun r s₃=>wpAny (model X.prog X.w) X.A (storeName X.env x r) (fun _=>SP X vY D .next) X.xe s₃) X.xe s₂) X.xe s:=by
  refine thn (he vY s σ H _ I h) fun w s1 zz=>?_
  obtain⟨y,H1,I1,r1,q1⟩:=zz;refine thn (ho vY s1 σ H1 v y u w _ I1 r r1 q1) fun z s2 zz=>?_
  obtain⟨zv,H2,I2,r2,q2⟩:=zz;exact ZL I2 hN hi hx r2 (fun s3 I3=>⟨_,H2,I3,q2⟩) hf
 rcases l with ⟨hk,hm⟩|⟨hk,c,hc,hcell⟩
 ·exact wpAny_loadName_local I.ok.kind hk hn hm go
 ·rcases hk with hk|hk
  ·exact wpAny_loadName_cell I.ok.kind hk hc hcell go
  ·rcases hx with k|k
   ·have:X.env.scope.names.lookup x=some .free:=hk
    rw[k] at this;cases this
   ·have:X.env.scope.names.lookup x=some .free:=hk
    rw[k] at this;cases this
def ipI(f:Int->Int->Int):TIp:=fun x y H Q=>∃i j,x=.int i/\y=.int j/\Q (.int<|f i j) H
def zay:PIp X .Add (ipI fun i j=>i+j):=by
 intro vY s σ H x y v u Q I r1 r2 h;obtain⟨i,j,e1,e2,q⟩:=h;subst e1;subst e2;obtain⟨t,rfl⟩:=r1;obtain⟨t',rfl⟩:=r2;exact iadd_int ⟨.int _,H,I.tok _,⟨_,rfl⟩,q⟩
end
section
variable {X:Cx}{pos:Pos}
def z7o(c:TT)(tb:TS):TS:=fun D σ H=>∃W:Nat->St->Hp->Prop,(∃m,W m σ H)/\∀m σ H,W m σ H->
 c σ H fun b H1=>if b=true then ∃N:St->Hp->Prop,(∀σ' H',N σ' H'->∃m',m' < m/\W m' σ' H')/\tb {D with nx:=N,ct:=N,bk:=D.nx} σ H1 else D.nx σ H1
def ZQ{c:Expr}{body:List Stmt}{tc:TT}{tb:TS}(hp:PassesOwn (model X.prog X.w) X.A X.env X.xe)(hc:PT X c tc)(hb:PSs X body tb):PS X (.While c body [] pos) (z7o tc tb):=by
 intro vY s σ H D I h;obtain⟨W,⟨m0,w0⟩,turn⟩:=h;refine wpAny_While (codeAny_whileLoop (fun n s'=>∃σ' H',Inv X vY σ' H' s'/\W n σ' H') ?_ m0 ⟨σ,H,I,w0⟩);rintro n s1 ⟨σ1,H1,I1,w1⟩;refine vS hp (thn (hc vY s1 σ1 H1 _ I1<|turn n σ1 H1 w1) fun b s2 zz=>?_);obtain⟨H2,I2,q2⟩:=zz;cases b with
|true=>
  obtain⟨N,hN,q2⟩:=q2;rw[kz rfl];refine vS hp (thn (hb vY s2 σ1 H2 _ I2 q2) fun f s3 q3=>?_);cases f with
 |next=>
   obtain⟨σ3,H3,I3,n3⟩:=q3;obtain⟨m',hm,w3⟩:=hN σ3 H3 n3;exact⟨m',hm,σ3,H3,I3,w3⟩
 |cont=>
   obtain⟨σ3,H3,I3,n3⟩:=q3;obtain⟨m',hm,w3⟩:=hN σ3 H3 n3;exact⟨m',hm,σ3,H3,I3,w3⟩
 |brk=>exact q3
 |ret v=>exact q3
|false=>
  rw[ky ke];exact wpAny_execs_nil ⟨σ1,H2,I2,q2⟩
end
structure It where
 go:Nat->Hp->Prop
 yld:Nat->Hp->V->Hp->Prop
 stop:Nat->Hp->Prop
def FpOk(X:Cx)(vY:List (Aa × Obj))(H:Hp)(b:Aa):Prop:=
 H b=none/\b≠X.env.locals/\b∉X.fs/\(b∈X.ex\/X.s₀.heap.objs.size<=b)/\(∀x c,X.env.cells.lookup x=some c->c≠b)/\∀p∈X.pn++vY,p.1≠b
def Inv.fpOk{X:Cx}{vY:List (Aa × Obj)}{σ:St}{H H':Hp}{s:Ac}{b:Aa}(I:Inv X vY σ H s)(hb:s.heap.objs.size<=b)(hn:H' b=none):FpOk X vY H' b:=by
 refine⟨hn,As<|kM I.lt hb,I.nofs hb,.inr<|kr I.sz hb,fun x c e z=>?_,fun p hp z=>?_⟩
 ·obtain⟨v,q⟩:=I.cell x c e;exact vd (kM q.lt<|by rw[z];exact hb) (vD _)
 ·exact vd (kM (vf (I.pin p hp).1)<|by rw[z];exact hb) (vD _)
structure Turn(P:Program)(w:World)(K:ku)(tg:Expr)(J:It)(fp:List Aa)(it:Aa)(tn:Nat->Heap->Prop):Prop where
 mem:it∈fp
 obj:∀i h,tn i h->∀b∈fp,∃o,h.get? b=some o/\∀v,o.data≠.cell v
 keep:∀i h h',tn i h->(∀b∈fp,∀o,h.get? b=some o->h'.get? b=some o)->tn i h'
 item:∀(X:Cx),X.prog=P->X.w=w->X.K=K->X.calm=true->∀(i:Nat)(vY:List (Aa × Obj))(s:Ac)(σ:St)(H:Hp)(E:Ab->Ac->Prop),Inv X vY σ H s->(∀b∈fp,FpOk X vY H b)->tn i s.heap->J.go i H->
  wpAny (model P w) X.A (pyNext<|.ref it) (fun r s1=>∃u,r=some u/\
   wpAny (model P w) X.A (letOwnedTupleGo tg (.ref it) u) (fun _ s2=>∃x H',Inv X vY σ H' s2/\RelV x u/\J.yld i H x H'/\tn (i+1) s2.heap/\∀b∈fp,H' b=none) E s1) E s
 done:∀(X:Cx),X.prog=P->X.w=w->X.K=K->X.calm=true->∀(i:Nat)(vY:List (Aa × Obj))(s:Ac)(σ:St)(H:Hp)(E:Ab->Ac->Prop),Inv X vY σ H s->(∀b∈fp,FpOk X vY H b)->tn i s.heap->J.stop i H->
  wpAny (model P w) X.A (pyNext<|.ref it) (fun r s1=>r=none/\Inv X vY σ H s1) E s
 self:∀(A:Around)(i:Nat)(s:Ac)(Q:Ab->Ac->Prop)(E:Ab->Ac->Prop),tn i s.heap->Q (.ref it) s->wpAny (model P w) A (pyIter<|.ref it) Q E s
abbrev TI:=St->Hp->(It->Hp->Prop)->Prop
def PIE(X:Cx)(vY:List (Aa × Obj))(σ:St)(tg:Expr)(R:It->Hp->Prop)(itv:Ab)(s2:Ac):Prop:=
 ∃(it:Aa)(fp:List Aa)(tn:Nat->Heap->Prop)(J:It)(H':Hp),itv=.ref it/\Inv X vY σ H' s2/\Turn X.prog X.w X.K tg J fp it tn/\tn 0 s2.heap/\(∀b∈fp,FpOk X vY H' b)/\R J H'
def PI(X:Cx)(tg iter:Expr)(wi:TI):Prop:=
 ∀(vY:List (Aa × Obj))(s:Ac)(σ:St)(H:Hp)(R:It->Hp->Prop),Inv X vY σ H s->wi σ H R->
  wpAny (model X.prog X.w) X.A (eval iter X.env) (fun v s1=>wpAny (model X.prog X.w) X.A (pyIter v) (PIE X vY σ tg R) X.xe s1) X.xe s
def z6K{M:Model}{A:Around}{E:Ab->Ac->Prop}{s:Ac}{tg:Expr}{it:Aa}{u:Ab}{o:Obj}{n:String}{vs:Array Ab}{Q:Unit->Ac->Prop}(ho:s.heap.get? it=some o)(hc:o.cls=.type n)(hd:o.data=.fields vs)(hn:["enumerate","zip","dict_itemiterator","dict_reverseitemiterator","odict_iterator","itertools.zip_longest","itertools.pairwise"].contains n=false)(hQ:Q () s):wpAny M A (letOwnedTupleGo tg (.ref it) u) Q E s:=by
 unfold letOwnedTupleGo;cases tg <;> first
 |exact ve hQ
 |(cases u <;> first
   |exact ve hQ
   |(refine va (wpAny_load ho ?_);rw[hc,hd];show wpAny M A (if (["enumerate","zip","dict_itemiterator","dict_reverseitemiterator","odict_iterator","itertools.zip_longest","itertools.pairwise"].contains n&&vs[0]? == some (rawInt _))=true then _ else _) Q E s;rw[ky<|by intro h;rw[hn,vB] at h;cases h];exact ve hQ))
noncomputable def Itl(K:ku)(a:Aa):It:=
 ⟨fun i H=>∃xs x,SqL K H a xs/\xs[i]?=some x,fun i H x H'=>H'=H/\∀xs,SqL K H a xs->xs[i]?=some x,fun i H=>∃xs,SqL K H a xs/\xs.length<=i⟩
noncomputable def Itt(K:ku)(a:Aa):It:=
 ⟨fun i H=>∃xs x,SqT K H a xs/\xs[i]?=some x,fun i H x H'=>H'=H/\∀xs,SqT K H a xs->xs[i]?=some x,fun i H=>∃xs,SqT K H a xs/\xs.length<=i⟩
noncomputable def Itr(lo:Int)(n:Nat):It:=⟨fun i _=>i < n,fun i H x H'=>H'=H/\x=.int (lo+i),fun i _=>n<=i⟩
def z3Q{P:Program}{w:World}{K:ku}{tg:Expr}(a it:Aa):Turn P w K tg (Itl K a) [it] it (fun i h=>h.IsListIter it a i) where
 mem:=by simp
 obj:=fun i h st b hb=>by
  have e:b=it:=by simpa using hb
  subst e;obtain⟨o,e,c,d⟩:=st;exact⟨o,e,fun v z=>by rw[d] at z;cases z⟩
 keep:=fun i h h' st k=>st.at fun o e=>k it (by simp) o e
 item:=by
  intro X hP hw hK hc i vY s σ H E I hf st hg;subst hP hw hK;obtain⟨xs,x,hq,hx⟩:=hg;obtain⟨its,rv,p,hz⟩:=I.list hq;obtain⟨u,hu,ru⟩:=rv.get hx;obtain⟨f0,f1,f2,f3,f4,f5⟩:=hf it (by simp);refine wpAny_pyNext_list_item st p.isList (x:=u) (by simpa using hu) fun h' st' sb=>?_
  have I1:Inv X vY σ H {s with heap:=h'}:=I.turned (t':=s.toks) (fun b o hb e=>(sb.2 b hb).trans e) f0 f1 f3 f4 f5;obtain⟨o,e,c,d⟩:=id st';exact⟨u,rfl,z6K (s:={s with heap:=h'}) e c d (by decide) ⟨x,H,I1,ru,⟨rfl,fun ys hy=>by rw[I.list_inj hy hq];exact hx⟩,st',fun b hb=>(hf b hb).1⟩⟩
 done:=by
  intro X hP hw hK hc i vY s σ H E I hf st hg;subst hP hw hK;obtain⟨xs,hq,hx⟩:=hg;obtain⟨its,rv,p,hz⟩:=I.list hq;obtain⟨f0,f1,f2,f3,f4,f5⟩:=hf it (by simp);have hl:=rv.length;exact wpAny_pyNext_list_end (I.ok.hd hc) st p.isList (by simp;lia) fun h' eb=>⟨rfl,I.turned (t':=s.toks) (fun b o hb e=>eb b o hb e) f0 f1 f3 f4 f5⟩
 self:=fun _ _ _ _ _ st h=>wpAny_pyIter_listiter st h
def z35{P:Program}{w:World}{K:ku}{tg:Expr}(a it:Aa):Turn P w K tg (Itt K a) [it] it (fun i h=>h.IsTupleIter it a i) where
 mem:=by simp
 obj:=fun i h st b hb=>by
  have e:b=it:=by simpa using hb
  subst e;obtain⟨o,e,c,d⟩:=st;exact⟨o,e,fun v z=>by rw[d] at z;cases z⟩
 keep:=fun i h h' st k=>st.at fun o e=>k it (by simp) o e
 item:=by
  intro X hP hw hK hc i vY s σ H E I hf st hg;subst hP hw hK;obtain⟨xs,x,hq,hx⟩:=hg;obtain⟨its,rv,p,hz⟩:=I.tuple hq;obtain⟨u,hu,ru⟩:=rv.get hx;obtain⟨f0,f1,f2,f3,f4,f5⟩:=hf it (by simp);refine wpAny_pyNext_tuple_item st (show s.heap.IsTuple a its.toArray from p) (x:=u) (by simpa using hu) fun h' st' sb=>?_
  have I1:Inv X vY σ H {s with heap:=h'}:=I.turned (t':=s.toks) (fun b o hb e=>(sb.2 b hb).trans e) f0 f1 f3 f4 f5;obtain⟨o,e,c,d⟩:=id st';exact⟨u,rfl,z6K (s:={s with heap:=h'}) e c d (by decide) ⟨x,H,I1,ru,⟨rfl,fun ys hy=>by rw[I.tuple_inj hy hq];exact hx⟩,st',fun b hb=>(hf b hb).1⟩⟩
 done:=by
  intro X hP hw hK hc i vY s σ H E I hf st hg;subst hP hw hK;obtain⟨xs,hq,hx⟩:=hg;obtain⟨its,rv,p,hz⟩:=I.tuple hq;obtain⟨f0,f1,f2,f3,f4,f5⟩:=hf it (by simp);have hl:=rv.length;exact wpAny_pyNext_tuple_end (I.ok.hd hc) st (show s.heap.IsTuple a its.toArray from p) (by simp;lia) fun h' eb=>⟨rfl,I.turned (t':=s.toks) (fun b o hb e=>eb b o hb e) f0 f1 f3 f4 f5⟩
 self:=fun _ _ _ _ _ st h=>wpAny_pyIter_tupleiter st h
def z36{P:Program}{w:World}{K:ku}{tg:Expr}(it:Aa)(lo:Int)(n:Nat):Turn P w K tg (Itr lo n) [it] it (fun i h=>IsRangeIter h it (lo+(i:Nat) * 1) ((n:Int) - (i:Nat)) 1) where
 mem:=by simp
 obj:=fun i h st b hb=>by
  have e:b=it:=by simpa using hb
  subst e;exact⟨_,st,fun v z=>by
   have z':Data.fields _=Data.cell v:=z;cases z'⟩
 keep:=fun i h h' st k=>k it (by simp) _ st
 item:=by
  intro X hP hw hK hc i vY s σ H E I hf st hg;subst hP hw hK;obtain⟨f0,f1,f2,f3,f4,f5⟩:=hf it (by simp);have W:=Walks.range (prog:=X.prog) (w:=X.w) (I.ok.hd hc) it lo 1 n;refine W.item i s _ _ hg st fun v h' tk hv st' kk=>?_
  obtain⟨t,rfl⟩:=hv;have I1:Inv X vY σ H {s with heap:=h',toks:=tk}:=I.turned (fun b o hb e=>kk b o (by simpa using hb) e) f0 f1 f3 f4 f5;refine⟨_,rfl,z6K (s:={s with heap:=h',toks:=tk}) (n:="range_iterator") st' rfl rfl (by decide) ⟨.int (lo+i),H,I1,⟨t,?_⟩,⟨rfl,rfl⟩,st',fun b hb=>(hf b hb).1⟩⟩;rw[Int.mul_one]
 done:=by
  intro X hP hw hK hc i vY s σ H E I hf st hg;subst hP hw hK;obtain⟨f0,f1,f2,f3,f4,f5⟩:=hf it (by simp);exact wpAny_pyNext_range_end (I.ok.hd hc) st (by have:n<=i:=hg;lia) fun h' eb=>⟨rfl,I.turned (t':=s.toks) (fun b o hb e=>eb b o hb e) f0 f1 f3 f4 f5⟩
 self:=fun _ _ _ _ _ st h=>wpAny_pyIter_rangeiter st h
section
variable {X:Cx}{tg:Expr}
def zaC(K:ku)(tl:TE):TI:=fun σ H R=>tl σ H fun x H1=>∃a,x=.ref a/\(∃xs,SqL K H1 a xs)/\R (Itl K a) H1
def iTup(K:ku)(tl:TE):TI:=fun σ H R=>tl σ H fun x H1=>∃a,x=.ref a/\(∃xs,SqT K H1 a xs)/\R (Itt K a) H1
def qy{l:Expr}{tl:TE}(hl:PE X l tl):PI X tg l (zaC X.K tl):=by
 intro vY s σ H R I h;refine thn (hl vY s σ H _ I h) fun v s1 zz=>?_
 obtain⟨x,H1,I1,r1,q1⟩:=zz;obtain⟨a,e,⟨xs,hq⟩,q⟩:=q1;subst e;cases r1;obtain⟨its,rv,p,hz⟩:=I1.list hq;refine wpAny_pyIter_list p.isList ?_;refine⟨s1.heap.objs.size,[s1.heap.objs.size],_,_,H1,rfl,I1.kept (t':=s1.toks) fun b o e=>vb _ e,z3Q a _,⟨_,vg _ rfl,rfl,rfl⟩,fun b hb=>?_,q⟩;have e:b=s1.heap.objs.size:=by simpa using hb
 subst e;exact I1.fpOk (kg _) (I1.hok.fresh<|kg _)
def J3{l:Expr}{tl:TE}(hl:PE X l tl):PI X tg l (iTup X.K tl):=by
 intro vY s σ H R I h;refine thn (hl vY s σ H _ I h) fun v s1 zz=>?_
 obtain⟨x,H1,I1,r1,q1⟩:=zz;obtain⟨a,e,⟨xs,hq⟩,q⟩:=q1;subst e;cases r1;obtain⟨its,rv,p,hz⟩:=I1.tuple hq;refine wpAny_pyIter_tuple (show s1.heap.IsTuple a its.toArray from p) ?_;refine⟨s1.heap.objs.size,[s1.heap.objs.size],_,_,H1,rfl,I1.kept (t':=s1.toks) fun b o e=>vb _ e,z35 a _,⟨_,vg _ rfl,rfl,rfl⟩,fun b hb=>?_,q⟩;have e:b=s1.heap.objs.size:=by simpa using hb
 subst e;exact I1.fpOk (kg _) (I1.hok.fresh<|kg _)
def z2u{vY:List (Aa × Obj)}{σ:St}{H:Hp}{s:Ac}{R:It->Hp->Prop}{E:Ab->Ac->Prop}{lo hi:Int}{t u v:Tok}{tk:Nat}(I:Inv X vY σ H s)(h1: -(2 ^ 62)<=lo)(h2:lo < 2 ^ 62)(h3: -(2 ^ 62)<=hi)(h4:hi < 2 ^ 62)(q:R (Itr lo (hi - lo).toNat) H):wpAny (model X.prog X.w) X.A (pyIter<|.ref s.heap.objs.size) (PIE X vY σ tg R) E {s with heap:=s.heap.push {cls:=.type "range",data:=.fields #[.int lo t,.int hi u,.int 1 v]},toks:=tk}:=by
 refine wpAny_pyIter_range (IsRange.new ..) (small_one h1 h2 h3 h4) ?_;have I1:Inv X vY σ H {s with heap:=s.heap.push {cls:=.type "range",data:=.fields #[.int lo t,.int hi u,.int 1 v]},toks:=tk}:=I.kept fun b o e=>vb _ e
 refine⟨(s.heap.push {cls:=.type "range",data:=.fields #[.int lo t,.int hi u,.int 1 v]}).objs.size,[(s.heap.push {cls:=.type "range",data:=.fields #[.int lo t,.int hi u,.int 1 v]}).objs.size],_,_,H,rfl,
  I1.kept (t':=tk) fun b o e=>vb _ e,z36 _ lo (hi - lo).toNat,?_,fun b hb=>?_,q⟩
 ·have e1:lo+((0:Nat):Int) * 1=lo:=by simp
  have e2:(((hi - lo).toNat:Nat):Int) - ((0:Nat):Int)=Builtin.Range.rangeSize lo hi 1:=by rw[rangeSize_one];split <;> lia
  show IsRangeIter _ _ (lo+((0:Nat):Int) * 1) ((((hi - lo).toNat:Nat):Int) - ((0:Nat):Int)) 1;rw[e1,e2];exact vg _ rfl
 ·have e:b=(s.heap.push {cls:=.type "range",data:=.fields #[.int lo t,.int hi u,.int 1 v]}).objs.size:=by simpa using hb
  subst e;exact I1.fpOk (kg _) (I1.hok.fresh<|kg _)
def zaB(ta:TA):TI:=fun σ H R=>ta σ H fun vs H1=>∃j:Int,vs=[.int j]/\-(2 ^ 62)<=j/\j < 2 ^ 62/\R (Itr 0 j.toNat) H1
def zbE(ta:TA):TI:=fun σ H R=>ta σ H fun vs H1=>∃i j:Int,vs=[.int i,.int j]/\(-(2 ^ 62)<=i/\i < 2 ^ 62/\-(2 ^ 62)<=j/\j < 2 ^ 62)/\R (Itr i (j - i).toNat) H1
def qB{a:Expr}{ta:TA}{p pos:Pos}(hg:Gl X "range")(hm:X.mg "range"=none)(ha:PA X [a] ta)(hs:autoParam (starEach [a] X.env=[(false,eval a X.env)]) aR._auto_1):PI X tg (.Call (.Name "range" p) [a] [] pos) (zaB ta):=by
 intro vY s σ H R I h;refine Call_ (Je I hg hm boot_range<|vK (thn (ha pos vY s σ H _ I h) fun us s1 ⟨vs,H1,I1,r1,q1⟩=>?_) hs rfl);obtain⟨j,e,q1,q2,q⟩:=q1;subst e;cases r1 with
|cons r rr=>
  cases rr;obtain⟨t,rfl⟩:=r;exact call_range_1 (z2u I1 (by lia) (by lia) q1 q2<|by simpa using q)
def z4o{a b:Expr}{ta:TA}{p pos:Pos}(hg:Gl X "range")(hm:X.mg "range"=none)(ha:PA X [a,b] ta)(hs:autoParam (starEach [a,b] X.env=[(false,eval a X.env),(false,eval b X.env)]) aR._auto_1)(hs2:autoParam (starEach [b] X.env=[(false,eval b X.env)]) aR._auto_1):
  PI X tg (.Call (.Name "range" p) [a,b] [] pos) (zbE ta):=by
 intro vY s σ H R I h;refine Call_ (Je I hg hm boot_range<|vK (thn (ha pos vY s σ H _ I h) fun us s1 ⟨vs,H1,I1,r1,q1⟩=>?_) (by rw[hs,hs2])<|by rw[hs2];rfl);obtain⟨i,j,e,⟨q1,q2,q3,q4⟩,q⟩:=q1;subst e;cases r1 with
|cons r rr=>
  cases rr with
 |cons r' rr=>
   cases rr;obtain⟨t,rfl⟩:=r;obtain⟨t',rfl⟩:=r';exact call_range_2 (z2u I1 q1 q2 q3 q4 q)
def tFor(wi:TI)(g:TG)(tb:TS):TS:=fun D σ H=>wi σ H fun J H1=>∃W:Nat->Nat->St->Hp->Prop,(∃m,W 0 m σ H1)/\∀i m σ H,W i m σ H->
 (J.stop i H/\D.nx σ H)\/(J.go i H/\∃N:St->Hp->Prop,(∀σ' H',N σ' H'->∃m',m' < m/\W (i+1) m' σ' H')/\∀x H',J.yld i H x H'->g x σ H' fun σ2 H2=>tb {D with nx:=N,ct:=N,bk:=D.nx} σ2 H2)
noncomputable def Qv(fp:List Aa)(h:Heap):List (Aa × Obj):=fp.filterMap fun b=>(h.get? b).map fun o=>(b,o)
def qD{fp:List Aa}{h:Heap}{b:Aa}{o:Obj}(hb:b∈fp)(e:h.get? b=some o):(b,o)∈Qv fp h:=List.mem_filterMap.mpr ⟨b,hb,by rw[e];rfl⟩
def z4A{fp:List Aa}{h:Heap}{p:Aa × Obj}(hp:p∈Qv fp h):p.1∈fp/\h.get? p.1=some p.2:=by
 obtain⟨b,hb,e⟩:=List.mem_filterMap.mp hp;cases q:h.get? b with
|none=>rw[q] at e;cases e
|some o=>
  rw[q] at e;have e':(b,o)=p:=kC e;subst e';exact⟨hb,q⟩
def Inv.pinned{vY:List (Aa × Obj)}{σ:St}{H:Hp}{s:Ac}{fp:List Aa}(I:Inv X vY σ H s)(hf:∀b∈fp,FpOk X vY H b)(ho:∀b∈fp,∃o,s.heap.get? b=some o/\∀v,o.data≠.cell v):Inv X (vY++Qv fp s.heap) σ H s:=
 I.pins_of fun p hp=>(kS.mp hp).elim (fun z=>I.pin p<|kN _ z) fun z=>by
  obtain⟨hb,e⟩:=z4A z;obtain⟨f0,f1,f2,_⟩:=hf p.1 hb;obtain⟨o,e',d⟩:=ho p.1 hb;rw[e] at e';cases e';exact⟨e,f0,f1,f2,d⟩
def Inv.unpinned{vY pl:List (Aa × Obj)}{σ:St}{H:Hp}{s:Ac}(I:Inv X (vY++pl) σ H s):Inv X vY σ H s:=I.pins_of fun p hp=>I.pin p (kN _<|kO _ hp)
def qQ{iter:Expr}{body:List Stmt}{wi:TI}{g:TG}{tb:TS}{pos:Pos}(hp:PassesOwn (model X.prog X.w) X.A X.env X.xe)(hc:X.calm=true)(hi:PI X tg iter wi)(hg:PG X tg g)(hb:PSs X body tb)(hs:∀x,foldedSetIterable iter X.env x=pure x:=by intro _;rfl):PS X (.For tg iter body [] pos) (tFor wi g tb):=by
 intro vY s σ H D I h;refine wpAny_For (thn (hi vY s σ H _ I h) fun v s1 h1=>thn h1 fun itv s2 h2=>?_) hs;obtain⟨it,fp,tn,J,H2,e,I2,T,st2,f2,W,⟨m0,w0⟩,turn⟩:=h2;subst e;have stat:∀{H':Hp},(∀b∈fp,H' b=none)->∀b∈fp,FpOk X vY H' b:=fun hn b hb=>⟨hn b hb,(f2 b hb).2⟩
 refine codeAny_forLoop_any (fun n s'=>∃i σ' H',Inv X vY σ' H' s'/\tn i s'.heap/\(∀b∈fp,H' b=none)/\W i n σ' H') ?_ m0 ⟨0,σ,H2,I2,st2,fun b hb=>(f2 b hb).1,w0⟩;rintro n s3 ⟨i,σ3,H3,I3,st3,fr3,w3⟩;rcases turn i n σ3 H3 w3 with ⟨stop,qn⟩|⟨go,N,hN,step⟩
 ·refine vS hp (thn (T.done X rfl rfl rfl hc i vY s3 σ3 H3 X.xe I3 (stat fr3) st3 stop) fun r s4 zz=>?_);obtain⟨hr,I4⟩:=zz;subst hr;exact wpAny_execs_nil ⟨σ3,H3,I4,qn⟩
 ·refine vS hp (thn (T.item X rfl rfl rfl hc i vY s3 σ3 H3 X.xe I3 (stat fr3) st3 go) fun r s4 zz=>?_);obtain⟨u,hr,h4⟩:=zz;subst hr;refine vS hp (thn h4 fun _ s5 zz=>?_);obtain⟨x,H5,I5,r5,y5,st5,fr5⟩:=zz;have I5':=I5.pinned (stat fr5) (T.obj _ _ st5);refine vS hp (thn (hg _ s5 σ3 H5 x u _ I5' r5<|step x H5 y5) fun _ s6 zz=>?_);obtain⟨σ6,H6,I6,q6⟩:=zz;refine vS hp (thn (hb _ s6 σ6 H6 _ I6 q6) fun f s7 q7=>?_);have again:∀{σ7:St}{H7:Hp},Inv X (vY++Qv fp s5.heap) σ7 H7 s7->N σ7 H7->∃m,m < n/\∃i σ' H',Inv X vY σ' H' s7/\tn i s7.heap/\(∀b∈fp,H' b=none)/\W i m σ' H':=fun {σ7 H7} I7 n7=>by
   obtain⟨m',hm,w7⟩:=hN σ7 H7 n7;refine⟨m',hm,i+1,σ7,H7,I7.unpinned,T.keep _ _ _ st5 fun b hb o e=>(I7.pin (b,o)<|kN _<|kN _<|qD hb e).1,fun b hb=>?_,w7⟩;obtain⟨o,e,d⟩:=T.obj _ _ st5 b hb;exact (I7.pin (b,o)<|kN _<|kN _<|qD hb e).2.1
  cases f with
 |next=>obtain⟨σ7,H7,I7,n7⟩:=q7;exact again I7 n7
 |cont=>obtain⟨σ7,H7,I7,n7⟩:=q7;exact again I7 n7
 |brk=>obtain⟨σ7,H7,I7,q7⟩:=q7;exact⟨σ7,H7,I7.unpinned,q7⟩
 |ret v=>obtain⟨x7,σ7,H7,I7,r7,q7⟩:=q7;exact⟨x7,σ7,H7,I7.unpinned,r7,q7⟩
end
def ZZ{K:ku}{a:Aa}{xs:List V}{g:TG}{tb:TS}{D:Ends}{σ:St}{H:Hp}(Pv:Nat->St->Hp->Prop)(h0:Pv 0 σ H)(hl:∀i σ H,i<=xs.length->Pv i σ H->SqL K H a xs)(hs:∀i x σ H,xs[i]?=some x->Pv i σ H->g x σ H fun σ2 H2=>tb {D with nx:=Pv (i+1),ct:=Pv (i+1),bk:=D.nx} σ2 H2)(hd:∀σ H,Pv xs.length σ H->D.nx σ H):
  ∃W:Nat->Nat->St->Hp->Prop,(∃m,W 0 m σ H)/\∀i m σ H,W i m σ H->
   ((Itl K a).stop i H/\D.nx σ H)\/((Itl K a).go i H/\∃N:St->Hp->Prop,(∀σ' H',N σ' H'->∃m',m' < m/\W (i+1) m' σ' H')/\∀x H',(Itl K a).yld i H x H'->g x σ H' fun σ2 H2=>tb {D with nx:=N,ct:=N,bk:=D.nx} σ2 H2):=by
 refine⟨fun i m σ H=>m=xs.length - i/\i<=xs.length/\Pv i σ H,⟨xs.length,by simp,vj _,h0⟩,?_⟩;rintro i m σ H ⟨rfl,hi,p⟩;have q:=hl i σ H hi p;by_cases hlt:i < xs.length
 ·refine .inr ⟨⟨xs,xs[i],q,by simp[hlt]⟩,Pv (i+1),fun σ' H' p'=>⟨xs.length - (i+1),by lia,rfl,hlt,p'⟩,fun x H' y=>?_⟩;obtain⟨e,y⟩:=y;subst e;exact hs i x σ _ (y xs q) p
 ·have e:i=xs.length:=by lia
  subst e;exact .inl ⟨⟨xs,q,kg _⟩,hd σ H p⟩
def z8C{K:ku}{a:Aa}{xs:List V}{g:TG}{tb:TS}{D:Ends}{σ:St}{H:Hp}(Pv:Nat->St->Hp->Prop)(h0:Pv 0 σ H)(hl:∀i σ H,i<=xs.length->Pv i σ H->SqT K H a xs)(hs:∀i x σ H,xs[i]?=some x->Pv i σ H->g x σ H fun σ2 H2=>tb {D with nx:=Pv (i+1),ct:=Pv (i+1),bk:=D.nx} σ2 H2)(hd:∀σ H,Pv xs.length σ H->D.nx σ H):
  ∃W:Nat->Nat->St->Hp->Prop,(∃m,W 0 m σ H)/\∀i m σ H,W i m σ H->
   ((Itt K a).stop i H/\D.nx σ H)\/((Itt K a).go i H/\∃N:St->Hp->Prop,(∀σ' H',N σ' H'->∃m',m' < m/\W (i+1) m' σ' H')/\∀x H',(Itt K a).yld i H x H'->g x σ H' fun σ2 H2=>tb {D with nx:=N,ct:=N,bk:=D.nx} σ2 H2):=by
 refine⟨fun i m σ H=>m=xs.length - i/\i<=xs.length/\Pv i σ H,⟨xs.length,by simp,vj _,h0⟩,?_⟩;rintro i m σ H ⟨rfl,hi,p⟩;have q:=hl i σ H hi p;by_cases hlt:i < xs.length
 ·refine .inr ⟨⟨xs,xs[i],q,by simp[hlt]⟩,Pv (i+1),fun σ' H' p'=>⟨xs.length - (i+1),by lia,rfl,hlt,p'⟩,fun x H' y=>?_⟩;obtain⟨e,y⟩:=y;subst e;exact hs i x σ _ (y xs q) p
 ·have e:i=xs.length:=by lia
  subst e;exact .inl ⟨⟨xs,q,kg _⟩,hd σ H p⟩
def qJ{lo:Int}{n:Nat}{g:TG}{tb:TS}{D:Ends}{σ:St}{H:Hp}(Pv:Nat->St->Hp->Prop)(h0:Pv 0 σ H)(hs:∀i σ H,i < n->Pv i σ H->g (.int (lo+i)) σ H fun σ2 H2=>tb {D with nx:=Pv (i+1),ct:=Pv (i+1),bk:=D.nx} σ2 H2)(hd:∀σ H,Pv n σ H->D.nx σ H):
  ∃W:Nat->Nat->St->Hp->Prop,(∃m,W 0 m σ H)/\∀i m σ H,W i m σ H->
   ((Itr lo n).stop i H/\D.nx σ H)\/((Itr lo n).go i H/\∃N:St->Hp->Prop,(∀σ' H',N σ' H'->∃m',m' < m/\W (i+1) m' σ' H')/\∀x H',(Itr lo n).yld i H x H'->g x σ H' fun σ2 H2=>tb {D with nx:=N,ct:=N,bk:=D.nx} σ2 H2):=by
 refine⟨fun i m σ H=>m=n - i/\i<=n/\Pv i σ H,⟨n,by simp,vj _,h0⟩,?_⟩;rintro i m σ H ⟨rfl,hi,p⟩;by_cases hlt:i < n
 ·refine .inr ⟨hlt,Pv (i+1),fun σ' H' p'=>⟨n - (i+1),by lia,rfl,hlt,p'⟩,fun x H' y=>?_⟩;obtain⟨e,y⟩:=y;subst e y;exact hs i σ _ hlt p
 ·have e:i=n:=by lia
  subst e;exact .inl ⟨kg _,hd σ H p⟩
def JK{c:TT}{tb:TS}{D:Ends}{σ:St}{H:Hp}(Pv:St->Hp->Prop)(μ:St->Hp->Nat)(h0:Pv σ H)(hs:∀σ H,Pv σ H->c σ H fun b H1=>if b=true then tb {D with nx:=fun σ' H'=>Pv σ' H'/\μ σ' H' < μ σ H,ct:=fun σ' H'=>Pv σ' H'/\μ σ' H' < μ σ H,bk:=D.nx} σ H1 else D.nx σ H1)(mono:∀σ H Q Q',(∀b H1,Q b H1->Q' b H1)->c σ H Q->c σ H Q'):z7o c tb D σ H:=by
 refine⟨fun m σ H=>m=μ σ H/\Pv σ H,⟨_,rfl,h0⟩,?_⟩;rintro m σ H ⟨rfl,p⟩;refine mono σ H _ _ (fun b H1 q=>?_) (hs σ H p);cases b with
|true=>exact⟨_,fun σ' H' ⟨p',l⟩=>⟨_,l,rfl,p'⟩,q⟩
|false=>exact q
abbrev R2:=V->V->Hp->VK->Prop
def OpR(X:Cx)(f:Ab->Ab->Sem Ab)(r:R2):Prop:=
 ∀(vY:List (Aa × Obj))(s:Ac)(σ:St)(H:Hp)(x y:V)(v u:Ab)(Q:VK),Inv X vY σ H s->RelV x v->RelV y u->r x y H Q->
  wpAny (model X.prog X.w) X.A (f v u) (EP X vY σ Q) X.xe s
def UnR(X:Cx)(f:Ab->Sem Ab)(r:V->Hp->VK->Prop):Prop:=
 ∀(vY:List (Aa × Obj))(s:Ac)(σ:St)(H:Hp)(x:V)(v:Ab)(Q:VK),Inv X vY σ H s->RelV x v->r x H Q->
  wpAny (model X.prog X.w) X.A (f v) (EP X vY σ Q) X.xe s
def Zs(X:Cx)(f:Ab)(r:List V->Hp->VK->Prop):Prop:=
 ∀(vY:List (Aa × Obj))(s:Ac)(σ:St)(H:Hp)(xs:List V)(us:List Ab)(Q:VK),Inv X vY σ H s->Vals xs us->r xs H Q->
  wpAny (model X.prog X.w) X.A (call f us) (EP X vY σ Q) X.xe s
def TruR(X:Cx)(r:V->Hp->(Bool->Hp->Prop)->Prop):Prop:=
 ∀(vY:List (Aa × Obj))(s:Ac)(σ:St)(H:Hp)(x:V)(v:Ab)(Q:Bool->Hp->Prop),Inv X vY σ H s->RelV x v->r x H Q->
  wpAny (model X.prog X.w) X.A (truthy v) (TP X vY σ Q) X.xe s
def tOp(r:R2)(ta tb:TE):TE:=fun σ H Q=>ta σ H fun x H1=>tb σ H1 fun y H2=>r x y H2 Q
def tUn(r:V->Hp->VK->Prop)(ta:TE):TE:=fun σ H Q=>ta σ H fun x H1=>r x H1 Q
inductive rI(C:Int->Int->Prop)(g:Int->Int->V)(x:V)(y:V)(H:Hp)(Q:VK):Prop
|mk (i:_) (j:_):x=.int i->y=.int j->C i j->Q (g i j) H->rI C g x y H Q
inductive rI0(g:Int->Int->V)(x:V)(y:V)(H:Hp)(Q:VK):Prop
|mk (i:_) (j:_):x=.int i->y=.int j->Q (g i j) H->rI0 g x y H Q
inductive rU(g:Int->V)(x:V)(H:Hp)(Q:VK):Prop
|mk (i:_):x=.int i->Q (g i) H->rU g x H Q
section
variable {X:Cx}{a b c:Expr}{ta tb tc:TE}{pos:Pos}
def binT(ha:PE X a ta)(hb:PE X b tb){vY:List (Aa × Obj)}{s:Ac}{σ:St}{H:Hp}{R:V->V->Hp->Prop}(I:Inv X vY σ H s)(h:ta σ H fun x H1=>tb σ H1 fun y H2=>R x y H2){Q:Ab->Ac->Prop}{f:Ab->Ab->Sem Ab}(hf:∀v u s2 x y H2,Inv X vY σ H2 s2->RelV x v->RelV y u->R x y H2->wpAny (model X.prog X.w) X.A (f v u) Q X.xe s2):
  wpAny (model X.prog X.w) X.A (eval a X.env) (fun v s₁=>wpAny (model X.prog X.w) X.A (eval b X.env) (fun u s₂=>wpAny (model X.prog X.w) X.A (f v u) Q X.xe s₂) X.xe s₁) X.xe s:=by
 refine thn (ha vY s σ H _ I h) fun v s1 zz=>?_
 obtain⟨x,H1,I1,r1,q1⟩:=zz;refine thn (hb vY s1 σ H1 _ I1 q1) fun u s2 zz=>?_
 obtain⟨y,H2,I2,r2,q2⟩:=zz;exact hf v u s2 x y H2 I2 r1 r2 q2
def zE{op:Operator}{r:R2}(ho:OpR X (binaryOp op) r)(ha:PE X a ta)(hb:PE X b tb):PE X (.BinOp a op b pos) (tOp r ta tb):=by
 intro vY s σ H Q I h;exact wpAny_BinOp (binT ha hb I h fun v u s2 x y H2 I2 rx ry q=>ho vY s2 σ H2 x y v u Q I2 rx ry q)
def Qi{op:UnaryOp}{r:V->Hp->VK->Prop}(ho:UnR X (unaryOp op) r)(ha:PE X a ta):PE X (.UnaryOp op a pos) (tUn r ta):=by
 intro vY s σ H Q I h;exact UnaryOp_ (thn (ha vY s σ H _ I h) fun v s1 ⟨x,H1,I1,r1,q1⟩=>ho vY s1 σ H1 x v Q I1 r1 q1)
def opI{f:Ab->Ab->Sem Ab}{C:Int->Int->Prop}{g:Int->Int->Int}(rule:∀(i j:Int)(t u:Tok)(s:Ac)(Q:Ab->Ac->Prop)(E:Ab->Ac->Prop),C i j->Q (.int (g i j) s.toks) {s with toks:=s.toks+1}->wpAny (model X.prog X.w) X.A (f (.int i t)<|.int j u) Q E s):
  OpR X f (rI C fun i j=>.int<|g i j):=by
 intro vY s σ H x y v u Q I rx ry h;obtain⟨i,j,rfl,rfl,hc,q⟩:=h;obtain⟨t,rfl⟩:=rx;obtain⟨t',rfl⟩:=ry;exact rule i j t t' s _ _ hc ⟨.int<|g i j,H,I.tok _,⟨_,rfl⟩,q⟩
def opI0{f:Ab->Ab->Sem Ab}{g:Int->Int->Int}(rule:∀(i j:Int)(t u:Tok)(s:Ac)(Q:Ab->Ac->Prop)(E:Ab->Ac->Prop),Q (.int (g i j) s.toks) {s with toks:=s.toks+1}->wpAny (model X.prog X.w) X.A (f (.int i t)<|.int j u) Q E s):
  OpR X f (rI0 fun i j=>.int<|g i j):=by
 intro vY s σ H x y v u Q I rx ry h;obtain⟨i,j,rfl,rfl,q⟩:=h;obtain⟨t,rfl⟩:=rx;obtain⟨t',rfl⟩:=ry;exact rule i j t t' s _ _ ⟨.int<|g i j,H,I.tok _,⟨_,rfl⟩,q⟩
def opB0{f:Ab->Ab->Sem Ab}{g:Int->Int->Bool}(rule:∀(i j:Int)(t u:Tok)(s:Ac)(Q:Ab->Ac->Prop)(E:Ab->Ac->Prop),Q (.bool<|g i j) s->wpAny (model X.prog X.w) X.A (f (.int i t)<|.int j u) Q E s):
  OpR X f (rI0 fun i j=>.bl<|g i j):=by
 intro vY s σ H x y v u Q I rx ry h;obtain⟨i,j,rfl,rfl,q⟩:=h;obtain⟨t,rfl⟩:=rx;obtain⟨t',rfl⟩:=ry;exact rule i j t t' s _ _ ⟨.bl<|g i j,H,I,rfl,q⟩
def CDiv(i j:Int):Prop:=0 < j/\j < 1073741824
def CPow(i j:Int):Prop:=0<=j/\j<=1000000/\i.natAbs < 2 ^ 64
def CMul(i j:Int):Prop:=(-(2 ^ 64) < i/\i < 2 ^ 64)\/(-(2 ^ 64) < j/\j < 2 ^ 64)
def CMul.ok{i j:Int}(h:CMul i j):IntMulOk i j:=by
 rcases h with ⟨h1,h2⟩|⟨h1,h2⟩
 ·exact .of_left (intBits_le_64 h1 h2)
 ·exact .of_right (intBits_le_64 h1 h2)
def qT:OpR X (binaryOp .Add) (rI0 fun i j=>.int (i+j)):=opI0 fun _ _ _ _ _ _ _ q=>add_int q
def jh:OpR X (binaryOp .Sub) (rI0 fun i j=>.int (i - j)):=opI0 fun _ _ _ _ _ _ _ q=>sub_int q
def z0X:OpR X (binaryOp .Mult) (rI CMul fun i j=>.int (i * j)):=opI fun _ _ _ _ _ _ _ hc q=>mul_int q hc.ok
def jM:OpR X (binaryOp .FloorDiv) (rI CDiv fun i j=>.int (i / j)):=opI fun i j _ _ _ _ _ hc q=>by
 have h1:(0:Int) < j:=hc.1;have h2:j < 1073741824:=hc.2;exact floordiv_int (by lia) (by rw[Int.fdiv_eq_ediv_of_nonneg i<|by lia];exact q) (.inl<|PyProof.noPylong_small<|by lia)
def jJ:OpR X (binaryOp .Mod) (rI (fun _ j=>0 < j) fun i j=>.int (i % j)):=opI fun i j _ _ _ _ _ hc q=>by
 have h1:(0:Int) < j:=hc;exact mod_int' (by lia) (by rw[Int.fmod_eq_emod_of_nonneg i<|by lia];exact q)
def z4x:OpR X (binaryOp .Pow) (rI CPow fun i j=>.int (i ^ j.toNat)):=opI fun _ _ _ _ _ _ _ hc q=>pow_int_small hc.1 hc.2.1 hc.2.2 q
def unI{f:Ab->Sem Ab}{g:Int->Int}(rule:∀(i:Int)(t:Tok)(s:Ac)(Q:Ab->Ac->Prop)(E:Ab->Ac->Prop),Q (.int (g i) s.toks) {s with toks:=s.toks+1}->wpAny (model X.prog X.w) X.A (f<|.int i t) Q E s):
  UnR X f (rU fun i=>.int<|g i):=by
 intro vY s σ H x v Q I rx h;obtain⟨i,rfl,q⟩:=h;obtain⟨t,rfl⟩:=rx;exact rule i t s _ _ ⟨.int<|g i,H,I.tok _,⟨_,rfl⟩,q⟩
def jO:UnR X (unaryOp .USub) (rU fun i=>.int (-i)):=unI fun _ _ _ _ _ q=>neg_int q
end
noncomputable def scal:V->V->Bool
|.non,.non=>true|.non,.int _=>true|.int _,.non=>true|.non,.bl _=>true|.bl _,.non=>true|.non,.str _=>true|.str _,.non=>true
|.int _,.int _=>true|.bl _,.bl _=>true|.str _,.str _=>true|.byt _,.byt _=>true
|.int _,.str _=>true|.str _,.int _=>true|.bl _,.str _=>true|.str _,.bl _=>true
|_,_=>false
def rEq:R2:=fun x y H Q=>scal x y=true/\Q (.bl<|decide (x=y)) H
def rNe:R2:=fun x y H Q=>scal x y=true/\Q (.bl<|!decide (x=y)) H
def z5p{i j:Int}:decide (V.int i=V.int j)=(i == j):=by
 rw[vT];simp
def z7F{i j:Bool}:decide (V.bl i=V.bl j)=(i == j):=by
 rw[vT];simp
def z5o{i j:Str}:decide (V.str i=V.str j)=(i == j):=by
 rw[vT];simp
def z5q{i j:Array UInt8}:decide (V.byt i=V.byt j)=(i.toList == j.toList):=by
 rw[vT];cases i;cases j;simp
section
variable {X:Cx}{a b c:Expr}{ta tb tc:TE}{pos:Pos}
def qh{vY:List (Aa × Obj)}{σ:St}{H:Hp}{s:Ac}{Q:VK}{k k':Bool}(I:Inv X vY σ H s)(q:Q (.bl k) H)(e:k=k'):EP X vY σ Q (.bool k') s:=by
 subst e;exact⟨.bl k,H,I,rfl,q⟩
def qX:OpR X (compareOp .Eq) rEq:=by
 intro vY s σ H x y v u Q I rx ry h;obtain⟨hs,q⟩:=h;cases x with
|non=>
  cases rx;cases y with
 |non=>cases ry;exact PySem.EqNone.eq_none_none (qh I q<|by simp)
 |bl j=>cases ry;exact PySem.EqNone.eq_none_bool (qh I q<|by simp)
 |int j=>obtain⟨t',rfl⟩:=ry;exact PySem.EqNone.eq_none_int (qh I q<|by simp)
 |str j=>obtain⟨t',rfl⟩:=ry;exact PySem.EqNone.eq_none_str (qh I q<|by simp)
 |_=>exact vd (show false=true from hs) ke
|bl i=>
  cases rx;cases y with
 |non=>cases ry;exact PySem.EqNone.eq_bool_none (qh I q<|by simp)
 |bl j=>cases ry;exact eq_bool (qh I q z7F)
 |str j=>obtain⟨t',rfl⟩:=ry;exact PySem.EqMixed.eq_bool_str (qh I q<|by simp)
 |_=>exact vd (show false=true from hs) ke
|int i=>
  obtain⟨t,rfl⟩:=rx;cases y with
 |non=>cases ry;exact PySem.EqNone.eq_int_none (qh I q<|by simp)
 |int j=>obtain⟨t',rfl⟩:=ry;exact eq_int (qh I q z5p)
 |str j=>obtain⟨t',rfl⟩:=ry;exact PySem.EqMixed.eq_int_str (qh I q<|by simp)
 |_=>exact vd (show false=true from hs) ke
|str i=>
  obtain⟨t,rfl⟩:=rx;cases y with
 |non=>cases ry;exact PySem.EqNone.eq_str_none (qh I q<|by simp)
 |bl j=>cases ry;exact PySem.EqMixed.eq_str_bool (qh I q<|by simp)
 |int j=>obtain⟨t',rfl⟩:=ry;exact PySem.EqMixed.eq_str_int (qh I q<|by simp)
 |str j=>obtain⟨t',rfl⟩:=ry;exact eq_str (qh I q z5o)
 |_=>exact vd (show false=true from hs) ke
|byt i=>
  obtain⟨t,rfl⟩:=rx;cases y with
 |byt j=>obtain⟨t',rfl⟩:=ry;exact PySem.W.eq_bytes (qh I q z5q)
 |_=>exact vd (show false=true from hs) ke
|_=>cases y <;> exact vd (show false=true from hs) ke
def z8g:OpR X (compareOp .NotEq) rNe:=by
 intro vY s σ H x y v u Q I rx ry h;obtain⟨hs,q⟩:=h;cases x with
|non=>
  cases rx;cases y with
 |non=>cases ry;exact PySem.EqNone.ne_none_none (qh I q<|by simp)
 |bl j=>cases ry;exact PySem.EqNone.ne_none_bool (qh I q<|by simp)
 |int j=>obtain⟨t',rfl⟩:=ry;exact PySem.EqNone.ne_none_int (qh I q<|by simp)
 |str j=>obtain⟨t',rfl⟩:=ry;exact PySem.EqNone.ne_none_str (qh I q<|by simp)
 |_=>exact vd (show false=true from hs) ke
|bl i=>
  cases rx;cases y with
 |non=>cases ry;exact PySem.EqNone.ne_bool_none (qh I q<|by simp)
 |bl j=>cases ry;exact ne_bool (qh I q (vI not z7F))
 |str j=>obtain⟨t',rfl⟩:=ry;exact PySem.EqMixed.ne_bool_str (qh I q<|by simp)
 |_=>exact vd (show false=true from hs) ke
|int i=>
  obtain⟨t,rfl⟩:=rx;cases y with
 |non=>cases ry;exact PySem.EqNone.ne_int_none (qh I q<|by simp)
 |int j=>obtain⟨t',rfl⟩:=ry;exact ne_int (qh I q (vI not z5p))
 |str j=>obtain⟨t',rfl⟩:=ry;exact PySem.EqMixed.ne_int_str (qh I q<|by simp)
 |_=>exact vd (show false=true from hs) ke
|str i=>
  obtain⟨t,rfl⟩:=rx;cases y with
 |non=>cases ry;exact PySem.EqNone.ne_str_none (qh I q<|by simp)
 |bl j=>cases ry;exact PySem.EqMixed.ne_str_bool (qh I q<|by simp)
 |int j=>obtain⟨t',rfl⟩:=ry;exact PySem.EqMixed.ne_str_int (qh I q<|by simp)
 |str j=>obtain⟨t',rfl⟩:=ry;exact ne_str (qh I q (vI not z5o))
 |_=>exact vd (show false=true from hs) ke
|byt i=>
  obtain⟨t,rfl⟩:=rx;cases y with
 |byt j=>obtain⟨t',rfl⟩:=ry;exact PySem.W.ne_bytes (qh I q (vI not z5q))
 |_=>exact vd (show false=true from hs) ke
|_=>cases y <;> exact vd (show false=true from hs) ke
def z0f:OpR X (compareOp .Lt) (rI0 fun i j=>.bl<|decide (i < j)):=opB0 fun _ _ _ _ _ _ _ q=>lt_int q
def z1X:OpR X (compareOp .LtE) (rI0 fun i j=>.bl<|decide (i<=j)):=opB0 fun _ _ _ _ _ _ _ q=>le_int q
def J6:OpR X (compareOp .Gt) (rI0 fun i j=>.bl<|decide (j < i)):=opB0 fun _ _ _ _ _ _ _ q=>gt_int q
def za5:OpR X (compareOp .GtE) (rI0 fun i j=>.bl<|decide (j<=i)):=opB0 fun _ _ _ _ _ _ _ q=>ge_int q
def J5:OpR X (compareOp .Is) (fun x y H Q=>y=.non/\Q (.bl<|decide (x=.non)) H):=by
 intro vY s σ H x y v u Q I rx ry h;obtain⟨rfl,q⟩:=h;cases ry;refine is_none_gen (qh I q ?_);cases x <;> first
 |(cases rx;rfl)
 |(obtain⟨t,rfl⟩:=rx;rfl)
def z0d:OpR X (compareOp .IsNot) (fun x y H Q=>y=.non/\Q (.bl<|!decide (x=.non)) H):=by
 intro vY s σ H x y v u Q I rx ry h;obtain⟨rfl,q⟩:=h;cases ry;refine isnot_none_gen (qh I q ?_);cases x <;> first
 |(cases rx;rfl)
 |(obtain⟨t,rfl⟩:=rx;rfl)
def zy(b:Expr){op:CmpOp}(h:autoParam (op≠.In) aR._auto_2)(h2:autoParam (op≠.NotIn) aR._auto_2):behindInMarks op b=false:=by
 have e1:(op == CmpOp.In)=false:=by cases op <;> first|rfl|exact vd rfl h
 have e2:(op == CmpOp.NotIn)=false:=by cases op <;> first|rfl|exact vd rfl h2
 cases b <;> simp[behindInMarks,e1,e2]
def jj{op:CmpOp}{r:R2}(ho:OpR X (compareOp op) r)(ha:PE X a ta)(hb:PE X b tb)(hm:behindInMarks op b=false):PE X (.Compare a [op] [b] pos) (tOp r ta tb):=by
 intro vY s σ H Q I h;exact wpAny_Compare1 (binT ha hb I h fun v u s2 x y H2 I2 rx ry q=>ho vY s2 σ H2 x y v u Q I2 rx ry q) hm
def zbb(t:TE):TT:=fun σ H Q=>t σ H fun x H'=>∃k,x=.bl k/\Q k H'
def zo{op:CmpOp}{r:R2}(ho:OpR X (compareOp op) r)(ha:PE X a ta)(hb:PE X b tb)(hm:behindInMarks op b=false):PT X (.Compare a [op] [b] pos) (zbb<|tOp r ta tb):=by
 intro vY s σ H Q I h;refine wpAny_isTrue_Compare1 (thn (ha vY s σ H _ I h) fun v s1 ⟨x,H1,I1,r1,q1⟩=>thn (hb vY s1 σ H1 _ I1 q1) fun u s2 ⟨y,H2,I2,r2,q2⟩=>
  thn (ho vY s2 σ H2 x y v u _ I2 r1 r2 q2) fun c s3 ⟨z,H3,I3,r3,k,e,q3⟩=>?_) hm
 subst e;cases r3;exact vE ⟨H3,I3,q3⟩
def z9A(r r':R2)(ta tb tc:TE):TE:=fun σ H Q=>ta σ H fun x H1=>tb σ H1 fun y H2=>r x y H2 fun z H3=>∃k,z=.bl k/\
 (if k=true then tc σ H3 fun w' H4=>r' y w' H4 Q else Q (.bl false) H3)
def z0c{op op':CmpOp}{r r':R2}(ho:OpR X (compareOp op) r)(ho':OpR X (compareOp op') r')(ha:PE X a ta)(hb:PE X b tb)(hc:PE X c tc)(hm:lastMarks [op,op'] [b,c]=false:=by with_unfolding_all rfl):PE X (.Compare a [op,op'] [b,c] pos) (z9A r r' ta tb tc):=by
 intro vY s σ H Q I h;refine Compare_chain (thn (ha vY s σ H _ I h) fun v s1 ⟨x,H1,I1,r1,q1⟩=>chain_link (thn (hb vY s1 σ H1 _ I1 q1) fun u s2 ⟨y,H2,I2,r2,q2⟩=>
  thn (ho vY s2 σ H2 x y v u _ I2 r1 r2 q2) fun d s3 ⟨z,H3,I3,r3,k,e,q3⟩=>?_)) hm
 subst e;cases r3;refine vE ?_;cases k with
|false=>exact ite_ff ⟨.bl false,H3,I3,rfl,q3⟩
|true=>exact ite_tt (chain_last (thn (hc vY s3 σ H3 _ I3 q3) fun w' s4 ⟨z',H4,I4,r4,q4⟩=>ho' vY s4 σ H4 y z' u w' Q I4 r2 r4 q4))
def TruV(K:ku)(x:V)(H:Hp)(k:Bool):Prop:=
 match x with
|.non=>k=false
|.bl b=>k=b
|.int i=>k=(i != 0)
|.str y=>y.length<=sizeLine/\k=((y.length:Int) != 0)
|.byt y=>y.size<=sizeLine/\k=((y.size:Int) != 0)
|.ref p=>(∃xs,SqL K H p xs/\k= !xs.isEmpty)\/(∃xs,SqT K H p xs/\k= !xs.isEmpty)\/∃kvs,H p=some (.dK kvs)/\k= !kvs.isEmpty
|_=>False
def z3y{κ:Type}{kvs:List (κ × V)}{vs:List (κ × Ab)}(r:KV kvs vs):(!vs.isEmpty)= !kvs.isEmpty:=by
 cases r <;> rfl
def JB{xs:List V}{its:List Ab}(r:Vals xs its):(!its.toArray.isEmpty)= !xs.isEmpty:=by
 cases r <;> simp
def Jc:(sizeLine:Nat) < 2 ^ 63:=by rw[sizeLine_eq];decide
def z9p:TruR X (fun x H Q=>∃k,TruV X.K x H k/\Q k H):=by
 intro vY s σ H x v Q I rx h;obtain⟨k,e,q⟩:=h;have hl:=Jc;have hs:sizeLine=16777216:=sizeLine_eq;cases x with
|non=>
  cases rx;have e':k=false:=e;subst e';exact truthy_none ⟨H,I,q⟩
|bl b=>
  cases rx;have e':k=b:=e;subst e';exact vE ⟨H,I,q⟩
|int i=>
  obtain⟨t,rfl⟩:=rx;have e':k=(i != 0):=e;subst e';exact PySem.P.truthy_int ⟨H,I,q⟩
|str y=>
  obtain⟨t,rfl⟩:=rx;obtain⟨hy,e'⟩:y.length<=sizeLine/\k=((y.length:Int) != 0):=e;subst e';exact PySem.P.truthy_str (by lia) ⟨H,I.tok _,q⟩
|byt y=>
  obtain⟨t,rfl⟩:=rx;obtain⟨hy,e'⟩:y.size<=sizeLine/\k=((y.size:Int) != 0):=e;subst e';exact PySem.W.truthy_bytes (by lia) ⟨H,I.tok _,q⟩
|ref p=>
  cases rx;have e':(∃xs,SqL X.K H p xs/\k= !xs.isEmpty)\/(∃xs,SqT X.K H p xs/\k= !xs.isEmpty)\/∃kvs,H p=some (.dK kvs)/\k= !kvs.isEmpty:=e;rcases e' with ⟨xs,hx,e'⟩|⟨xs,hx,e'⟩|⟨kvs,hx,e'⟩
  ·subst e';obtain⟨its,r,pl,hz⟩:=I.list hx;have hlen:=r.length;exact wpAny_truthy_list pl.isList (by simp only[kF];lia) ⟨H,I.tok _,by rw[JB r];exact q⟩
  ·subst e';obtain⟨its,r,pl,hz⟩:=I.tuple hx;have hlen:=r.length;exact truthy_tuple pl (by simp only[kF];lia) ⟨H,I.tok _,by rw[JB r];exact q⟩
  ·subst e';obtain⟨hz,hS,vs,r,m⟩:kvs.length<=sizeLine/\(p == sysModules)=false/\∃vs,KV kvs vs/\s.heap.DictOf (zX X.prog X.w) p vs:=I.hok p _ hx;have hlen:kvs.length=vs.length:=Paired.length r;exact wpAny_truthy_dict hS m (by lia) ⟨H,I.tok _,by rw[z3y r];exact q⟩
|_=>exact (show False from e).elim
def z07(ha:PE X a ta)(he:∀whole,isTrue a X.env whole=(do let v <-whole;standAt a.pos;holding [v] (truthy v))):
  PT X a (fun σ H Q=>ta σ H fun x H'=>∃k,TruV X.K x H' k/\Q k H'):=by
 intro vY s σ H Q I h;exact isTrue_plain (thn (ha vY s σ H _ I h) fun v s1 ⟨x,H1,I1,r1,q1⟩=>z9p vY s1 σ H1 x v Q I1 r1 q1) (he _)
def Js{x:V}{us:List Ab}(r:Vals [x] us):∃u,us=[u]/\RelV x u:=by
 cases r with
|cons r1 r2=>cases r2;exact⟨_,rfl,r1⟩
def z7N{x y:V}{us:List Ab}(r:Vals [x,y] us):∃u w',us=[u,w']/\RelV x u/\RelV y w':=by
 cases r with
|cons r1 r2=>
  cases r2 with
 |cons r3 r4=>cases r4;exact⟨_,_,rfl,r1,r3⟩
def z5A(hc:X.calm=true):Zs X (.builtin "max") (fun xs H Q=>∃i j,xs=[.int i,.int j]/\Q (.int (if j > i then j else i)) H):=by
 intro vY s σ H xs us Q I r h;obtain⟨i,j,rfl,q⟩:=h;obtain⟨u,w',rfl,⟨t,rfl⟩,⟨t',rfl⟩⟩:=z7N r;refine max_two_ints (I.ok.hd hc) fun h' tk k=>⟨_,H,I.kept k,?_,q⟩
 by_cases hj:j > i
 ·rw[kz hj,kz hj];exact⟨_,rfl⟩
 ·rw[ky hj,ky hj];exact⟨_,rfl⟩
def z5z(hc:X.calm=true):Zs X (.builtin "min") (fun xs H Q=>∃i j,xs=[.int i,.int j]/\Q (.int (if j < i then j else i)) H):=by
 intro vY s σ H xs us Q I r h;obtain⟨i,j,rfl,q⟩:=h;obtain⟨u,w',rfl,⟨t,rfl⟩,⟨t',rfl⟩⟩:=z7N r;refine min_two_ints (I.ok.hd hc) fun h' tk k=>⟨_,H,I.kept k,?_,q⟩
 by_cases hj:j < i
 ·rw[kz hj,kz hj];exact⟨_,rfl⟩
 ·rw[ky hj,ky hj];exact⟨_,rfl⟩
end
structure ObjM(h:Heap)(x dx C:Aa)(mA:Str->Option Ab):Prop where
 obj:h.get? x=some (PySem.W.instObj C dx)
 ns:h.Ns1 dx mA
 ne:dx≠x
def z4N{h:Heap}{dx:Aa}{mA:Str->Option Ab}(n:h.Ns1 dx mA):∃od,h.get? dx=some od/\∀name,PySem.W.lookIn name od=some (mA name):=by
 obtain⟨o,es,ep,ho,hd,hk,_,hm⟩:=n;refine⟨o,ho,fun name=>?_⟩;have e:=hm name;unfold nsFind findBy at e;rw[<-Array.find?_toList] at e;unfold PySem.W.lookIn;rw[hd];dsimp only;split
 ·rename_i y q
  rw[q] at e;exact vI some e
 ·rename_i q
  rw[q] at e;have a:es.toList.any (·.refKey)=false:=by
   rw[List.any_eq_false];intro y hy;obtain⟨z,t,hkey⟩:=hk y (Array.mem_toList_iff.mp hy);simp[DictEntry.refKey,hkey]
  have a':¬es.toList.any (·.refKey)=true:=by rw[a];exact ke
  rw[ky a'];exact vI some e
def ObjM.look{h:Heap}{x dx C:Aa}{mA:Str->Option Ab}(I:ObjM h x dx C mA):∃od,PySem.W.InstAt h x (PySem.W.instObj C dx) C (some od)/\∀name,PySem.W.lookIn name od=some (mA name):=
 let ⟨od,ho,hl⟩:=z4N I.ns
 ⟨od,⟨I.obj,rfl,rfl,ho⟩,hl⟩
section
variable {prog:Program}{w:World}{A:Around}{E:Ab->Ac->Prop}{s:Ac}{K:ku}{x dx C f:Aa}{mA:Str->Option Ab}{name:Str}{v:Ab}
def z8A{expr:Bool}{Q:Ab->Ac->Prop}(X:K.In s.heap)(I:ObjM s.heap x dx C mA)(hg:PySem.W.plainGet K C name=true)(hh:PySem.W.hasDictIn K C=true)(ha:PySem.W.findIn K (.ref C) name=some none)(hv:mA name=some v)(hv':PySem.W.handedIn v=true)(h:Q v {s with toks:=s.toks+1}):
  wpAny (model prog w) A (getAttr (.ref x) name expr) Q E s:=by
 obtain⟨od,J,hl⟩:=I.look;exact PySem.W.get_value X J (PySem.W.plainGet_of hg).1 (PySem.W.findObj_own hh ha rfl<|by rw[hl,hv]) hv' h
def z6L{pl:Sem Bool}{Q:Ab × List Ab->Ac->Prop}(X:K.In s.heap)(I:ObjM s.heap x dx C mA)(hg:PySem.W.plainGet K C name=true)(hf:PySem.W.findIn K (.ref C) name=some (some<|.ref f))(ht:PySem.W.isFn K (.ref f)=true)(hv:mA name=none)(h:Q (.ref f,[.ref x]) s):
  wpAny (model prog w) A (getMethod (.ref x) name pl) Q E s:=by
 obtain⟨od,J,hl⟩:=I.look;exact PySem.W.method_fn X J (PySem.W.plainGet_of hg).1 (PySem.W.plainGet_of hg).2 hf (beq_iff_eq.mp ht) (by show (PySem.W.lookIn name od).map (·.isSome)=some false;rw[hl,hv];rfl) h
def z82{ns:List Str}{Q:Unit->Ac->Prop}(X:K.In s.heap)(I:ObjM s.heap x dx C mA)(hs:PySem.W.findIn K (.ref C) "__setattr__"=some (some<|.builtin "object.__setattr__"))(hp:PySem.W.plainOver K C=true)(ht:PySem.W.takerIn K C name=some none)(hh:PySem.W.hasDictIn K C=true)(hw:PySem.Within mA ns)(hsz:ns.length<=sizeLine)(h:∀h',ObjM h' x dx C (fun y=>if y=name then some v else mA y)->Heap.SameBut dx s.heap h'->Q () {s with heap:=h',toks:=s.toks+2}):
  wpAny (model prog w) A (setAttr (.ref x) name v) Q E s:=by
 obtain⟨od,J,hl⟩:=I.look;refine PySem.W.set_plain X J hs (PySem.W.osa_open (s:={s with toks:=s.toks+1}) (r:=none) X J hp ht fun b=>?_);obtain⟨cd,hc,hd'⟩:=PySem.W.any_some hh;have hx:s.heap.get? x=some ⟨.ref C,some dx,.plain,#[]⟩:=I.obj;refine va (ve<|va<|va<|wpAny_loadPart hx<|va<|PySem.W.Looks.here (s:={s with toks:=s.toks+1}) (PySem.W.looks_clsIn X hc) ?_);rw[hd'];refine ve (a:=some dx) (va<|ve<|va ?_);refine wpAny_nsSet1 (s:={s with toks:=s.toks+1}) I.ns fun h' hn2 hs2=>?_
 obtain⟨oD,esD,epD,hoD,hdD,hcD⟩:=hn2.count (PySem.Within.cons name v hw);refine va (wpAny_lookBehind hoD (by rw[hdD];exact pastItsLine_dict (kr hcD<|by rw[kP];lia)) ?_);exact ve (h _ ⟨(hs2.2 _<|Ne.symm I.ne).trans I.obj,hn2,I.ne⟩ hs2)
def z6w{R:Result->Ac->Prop}{vs:List Ab}{kw:List (Str × Ab)}(X:K.In s.heap)(hm:PySem.W.makesIn K C=true)(hi:PySem.W.findIn K (.ref C) "__init__"=some (some<|.ref f))(hf:PySem.W.typeIn K (.ref f)=some (.type "function"))(h:codeAny (model prog w) (A.under<|.builtin "type.__call__" ⟨.ref C::vs,kw⟩) (.call (.ref f) ⟨.ref (s.heap.objs.size+1)::vs,kw⟩) (PySem.W.InitBack (s.heap.objs.size+1) R)
   {s with heap:=(s.heap.push PySem.W.emptyDict).push (PySem.W.instObj C s.heap.objs.size)}):
  codeAny (model prog w) A (.call (.ref C) ⟨vs,kw⟩) R s:=by
 obtain⟨hh,g,d,t,os⟩:=s;exact PySem.W.make_core (PySem.W.makes_of X hm) (PySem.W.looks_findIn X hi) (fun self=>PySem.W.bind_fn X self hf) (.inl rfl) h
end
noncomputable def putF(f:Str)(v:V):List (Str × V)->List (Str × V)
|[]=>[(f,v)]
|(g,x)::r=>if g=f then (g,v)::r else (g,x)::putF f v r
def Jb(f g:Str)(v:V):∀fs:List (Str × V),(putF f v fs).lookup g=if g=f then some v else fs.lookup g
|[]=>by
  show List.lookup g [(f,v)]=_;by_cases h:g=f
  ·have hb:(g == f)=true:=beq_iff_eq.mpr h;simp only[List.lookup,hb,kz h]
  ·have hb:(g == f)=false:=Ai.mpr h;simp only[List.lookup,hb,ky h]
|(k,x)::r=>by
  have ih:=Jb f g v r;rw[show putF f v ((k,x)::r)=(if k=f then (k,v)::r else (k,x)::putF f v r) from rfl];by_cases hk:k=f
  ·rw[kz hk];by_cases h:g=k
   ·have hb:(g == k)=true:=beq_iff_eq.mpr h;simp only[List.lookup,hb,kz<|h.trans hk]
   ·have hb:(g == k)=false:=Ai.mpr h;simp only[List.lookup,hb,ky fun e:g=f=>h<|e.trans hk.symm]
  ·rw[ky hk];by_cases h:g=k
   ·have hb:(g == k)=true:=beq_iff_eq.mpr h;simp only[List.lookup,hb,ky fun e:g=f=>hk<|h.symm.trans e]
   ·have hb:(g == k)=false:=Ai.mpr h;simp only[List.lookup,hb];exact ih
def Jg(f:Str)(v:V):∀fs:List (Str × V),f∈(putF f v fs).map (·.1)/\∀g,g∈fs.map (·.1)->g∈(putF f v fs).map (·.1)
|[]=>⟨by simp[putF],fun g h=>by simp at h⟩
|(k,x)::r=>by
  obtain⟨i1,i2⟩:=Jg f v r;rw[show putF f v ((k,x)::r)=(if k=f then (k,v)::r else (k,x)::putF f v r) from rfl];by_cases hk:k=f
  ·rw[kz hk];subst hk;exact⟨by simp,fun g h=>by simpa using h⟩
  ·rw[ky hk];refine⟨?_,fun g h=>?_⟩
   ·rw[kU];exact kR _ i1
   ·rw[kU] at h ⊢
    rcases kE.mp h with e|e
    ·exact kE.mpr (.inl e)
    ·exact kR _ (i2 g e)
def Jd(f:Str)(v:V):∀fs:List (Str × V),(putF f v fs).length<=fs.length+1
|[]=>by simp[putF]
|(k,x)::r=>by
  have ih:=Jd f v r;rw[show putF f v ((k,x)::r)=(if k=f then (k,v)::r else (k,x)::putF f v r) from rfl];by_cases hk:k=f
  ·rw[kz hk,kP,kP];lia
  ·rw[ky hk,kP,kP];lia
def RelO.some_of{v:V}{o:Option Ab}(r:RelO (some v) o):∃u,o=some u/\RelV v u:=by
 cases o with
|none=>exact (show False from r).elim
|some u=>exact⟨u,rfl,r⟩
def RelO.none_of{o:Option Ab}(r:RelO none o):o=none:=by
 cases o with
|none=>rfl
|some u=>exact (show False from r).elim
def z50{v:V}{u:Ab}(r:RelV v u):PySem.W.handedIn u=true:=by
 cases v with
|non=>cases (show u=Value.none from r);rfl
|bl b=>cases (show u=Value.bool b from r);rfl
|int i=>obtain⟨t,e⟩:=(show ∃t,u=Value.int i t from r);cases e;rfl
|str x=>obtain⟨t,e⟩:=(show ∃t,u=Value.str x t from r);cases e;rfl
|byt b=>obtain⟨t,e⟩:=(show ∃t,u=Value.bytes b t from r);cases e;rfl
|flt b=>obtain⟨t,e⟩:=(show ∃t,u=Value.float b t from r);cases e;rfl
|ref a=>cases (show u=Value.ref a from r);rfl
|ty n=>cases (show u=Value.type n from r);rfl
section
variable {P:Program}{w:World}{H H':Hp}{h h':Heap}{a C dx:Aa}{fs fs':List (Str × V)}
def z0t(hok:HOk P w H h)(e:H a=some (.ins C dx fs)):∃mA,ObjM h a dx C mA/\(∀f,RelO (fs.lookup f)<|mA f)/\PySem.Within mA (fs.map (·.1))/\fs.length<=1000/\H dx=some (.own a):=by
 obtain⟨d,z,ne,ob,mA,n,r,q⟩:=(show qq P w H h a (.ins C dx fs) from hok a _ e)
 exact⟨mA,⟨ob,n,ne⟩,r,q,z,d⟩
end
structure Cls(K:ku)(C:Aa):Prop where
 pg:PySem.W.plainGet K C Str.empty=true
 hd:PySem.W.hasDictIn K C=true
 po:PySem.W.plainOver K C=true
 sa:PySem.W.findIn K (.ref C) "__setattr__"=some (some<|.builtin "object.__setattr__")
def Cls.get{K:ku}{C:Aa}(c:Cls K C)(f:Str):PySem.W.plainGet K C f=true:=c.pg
def Zj(K:ku)(C:Aa)(f:Str):Prop:=PySem.W.findIn K (.ref C) f=some none
def Zj.taker{K:ku}{C:Aa}{f:Str}(n:Zj K C f):PySem.W.takerIn K C f=some none:=by
 unfold PySem.W.takerIn;rw[show PySem.W.findIn K (.ref C) f=some none from n];rfl
structure Meth(K:ku)(C:Aa)(m:Str)(f:Aa):Prop where
 at_:PySem.W.findIn K (.ref C) m=some (some<|.ref f)
 fn:PySem.W.isFn K (.ref f)=true
 kp:PySem.W.keepIn K (.ref f)=true
section
variable {X:Cx}{vY:List (Aa × Obj)}{σ:St}{H:Hp}{s:Ac}{a C dx:Aa}{fs:List (Str × V)}{f:Str}{v:V}{A:Around}{E:Ab->Ac->Prop}
def z3B{b:Bool}{Q:Ab->Ac->Prop}(I:Inv X vY σ H s)(e:H a=some (.ins C dx fs))(c:Cls X.K C)(n:Zj X.K C f)(l:fs.lookup f=some v)(h:∀u s',Inv X vY σ H s'->RelV v u->Q u s'):wpAny (model X.prog X.w) A (getAttr (.ref a) f b) Q E s:=by
 obtain⟨mA,O,r,_,_,_⟩:=z0t I.hok e;obtain⟨u,hu,ru⟩:=RelO.some_of (v:=v) (o:=mA f) (by rw[<-l];exact r f);exact z8A I.kIn O (c.get f) c.hd n hu (z50 ru) (h u _ (I.tok _) ru)
def z3A{m:Str}{g:Aa}{pl:Sem Bool}{Q:Ab × List Ab->Ac->Prop}(I:Inv X vY σ H s)(e:H a=some (.ins C dx fs))(c:Cls X.K C)(k:Meth X.K C m g)(l:fs.lookup m=none)(h:Q (.ref g,[.ref a]) s):wpAny (model X.prog X.w) A (getMethod (.ref a) m pl) Q E s:=by
 obtain⟨mA,O,r,_,_,_⟩:=z0t I.hok e;have hn:mA m=none:=RelO.none_of (by rw[<-l];exact r m);exact z6L I.kIn O (c.get m) k.at_ k.fn hn h
def z3b{y:V}{u:Ab}{Q:Unit->Ac->Prop}(I:Inv X vY σ H s)(e:H a=some (.ins C dx fs))(c:Cls X.K C)(n:Zj X.K C f)(hl:fs.length < 1000)(ry:RelV y u)(h:∀s',Inv X vY σ (upd H a<|.ins C dx<|putF f y fs) s'->Q () s'):wpAny (model X.prog X.w) A (setAttr (.ref a) f u) Q E s:=by
 obtain⟨mA,O,r,wi,_,ho⟩:=z0t I.hok e;have hz:(fs.map (·.1)).length<=sizeLine:=by rw[kl,sizeLine_eq];lia
 refine z82 I.kIn O c.sa c.po n.taker c.hd wi hz fun h' O' sb=>h _ ?_
 have hd:∃o,h'.get? dx=some o:=let ⟨o,_,_,e',_⟩:=O'.ns;⟨o,e'⟩;refine I.write (x:=a) (e:=dx) (by rw[e];exact True.intro) (.inr ho) (fun b q hb z=>(sb.2 b hb).trans z) hd ?_;refine⟨by rw[zg O.ne];exact ho,?_,O.ne,O'.obj,_,O'.ns,fun g=>?_,fun g hg=>?_⟩
 ·have:=Jd f y fs;lia
 ·show RelO ((putF f y fs).lookup g) (if g=f then some u else mA g);rw[Jb];by_cases q:g=f
  ·rw[kz q,kz q];exact ry
  ·rw[ky q,ky q];exact r g
 ·by_cases q:g=f
  ·rw[q];exact (Jg f y fs).1
  ·refine (Jg f y fs).2 g (wi g fun z=>hg ?_);show (if g=f then some u else mA g)=none;rw[ky q];exact z
def Inv.made(I:Inv X vY σ H s):Inv X vY σ (upd (upd H s.heap.objs.size<|.own (s.heap.objs.size+1)) (s.heap.objs.size+1)<|.ins C s.heap.objs.size [])
  {s with heap:=(s.heap.push PySem.W.emptyDict).push (PySem.W.instObj C s.heap.objs.size)}:=by
 have e1:(s.heap.push PySem.W.emptyDict).get? s.heap.objs.size=some PySem.W.emptyDict:=vg s.heap rfl;have e2:((s.heap.push PySem.W.emptyDict).push<|PySem.W.instObj C s.heap.objs.size).get? (s.heap.objs.size+1)=some (PySem.W.instObj C s.heap.objs.size):=by
  have:=vg (s.heap.push PySem.W.emptyDict) (o:=PySem.W.instObj C s.heap.objs.size) rfl
  rwa [Heap.size_push] at this
 have e3:(s.heap.push PySem.W.emptyDict).Ns s.heap.objs.size (fun _=>none):=⟨PySem.W.emptyDict,#[],_,e1,rfl,(fun e he=>vd he<|by simp),fun _=>rfl⟩
 have I1:=I.laid (a:=s.heap.objs.size) (o:=.own (s.heap.objs.size+1)) (h':=s.heap.push PySem.W.emptyDict) (t':=s.toks) (fun b u q=>vb _ q) (kg _) ⟨_,e1⟩;refine I1.laid (a:=s.heap.objs.size+1) (o:=.ins C s.heap.objs.size []) (t':=s.toks) (fun b u q=>vb _ q) (kY<|Heap.size_push _ _) ?_;have ne:s.heap.objs.size≠s.heap.objs.size+1:=vn (yb _);refine⟨by rw[zg ne,z7],vj _,ne,e2,fun _=>none,(Heap.Ns1.of_empty e3).at fun o q=>vb _ q,fun _=>True.intro,fun y hy=>vd rfl hy⟩
def z9i{prog:Program}{w:World}{env:Env}{e:Expr}{f:Str}{pos:Pos}{s:Ac}{Q:Ab->Ac->Prop}(hb:attributeBase e f env (eval e env)=eval e env)(h:wpAny (model prog w) A (eval e env) (fun o s₁=>wpAny (model prog w) A (getAttr o f true) Q E s₁) E s):wpAny (model prog w) A (eval (.Attribute e f pos) env) Q E s:=
 Attribute_any_ h (by rw[arm_eval_Attribute,hb])
end
def tFld(K:ku)(ta:TE)(f:Str):TE:=fun σ H Q=>ta σ H fun x H1=>∃a C dx fs v,x=.ref a/\H1 a=some (.ins C dx fs)/\Cls K C/\Zj K C f/\fs.lookup f=some v/\Q v H1
def sFld(K:ku)(ta tv:TE)(f:Str):TS:=fun D σ H=>tv σ H fun y H1=>ta σ H1 fun x H2=>∃a C dx fs,x=.ref a/\H2 a=some (.ins C dx fs)/\Cls K C/\Zj K C f/\fs.length < 1000/\
 D.nx σ (upd H2 a<|.ins C dx<|putF f y fs)
section
variable {X:Cx}{o e value:Expr}{f:Str}{pos pos' tpos:Pos}{ta tv:TE}
def z4r(he:PE X e ta)(hb:attributeBase e f X.env (eval e X.env)=eval e X.env):PE X (.Attribute e f pos) (tFld X.K ta f):=by
 intro vY s σ H Q I h;refine z9i hb (thn (he vY s σ H _ I h) fun u s1 zz=>?_);obtain⟨x,H1,I1,rx,a,C,dx,fs,v,ex,ea,c,n,l,q⟩:=zz;subst ex;obtain rfl:u=Value.ref a:=rx;exact z3B I1 ea c n l fun u' s2 I2 ru=>⟨v,H1,I2,ru,q⟩
def z0V(ha:PE X o ta)(hv:PE X value tv)(hs:swapsWith value (some<|.Attribute o f pos') pos.line X.env=pure false):PS X (.Assign [.Attribute o f pos'] value pos) (sFld X.K ta tv f):=by
 intro vY s σ H D I h;refine plainObj_wpAny_Assign_Attribute (thn (hv vY s σ H _ I h) fun u s1 ⟨y,H1,I1,ry,q⟩=>thn (ha vY s1 σ H1 _ I1 q) fun ov s2 ⟨x,H2,I2,rx,a,C,dx,fs,ex,ea,c,n,l,q2⟩=>?_) hs;subst ex;obtain rfl:ov=Value.ref a:=rx;exact z3b I2 ea c n l ry fun s3 I3=>⟨σ,_,I3,q2⟩
end
section
variable {X:Cx}{vY:List (Aa × Obj)}{σ:St}{H:Hp}{s:Ac}{A:Around}{E:Ab->Ac->Prop}{Q:Ab->Ac->Prop}{c:Ab}{b:Bool}
inductive TyOf(K:ku)(H:Hp):V->Ab->Prop where
|non:TyOf K H .non (.type "NoneType")
|bl (x:Bool):TyOf K H (.bl x) (.type "bool")
|int (i:Int):TyOf K H (.int i) (.type "int")
|str (x:Str):TyOf K H (.str x) (.type "str")
|flt (x:UInt64):TyOf K H (.flt x) (.type "float")
|lst {a:Aa} {xs:List V} (e:H a=some (.lst xs)):TyOf K H (.ref a) (.type "list")
|frz {a:Aa} {o:Obj} {xs:List V} (e:H a=some (.frz o<|.lst xs)):TyOf K H (.ref a) (.type "list")
|tup {a:Aa} {xs:List V} (e:H a=some (.tup xs)):TyOf K H (.ref a) (.type "tuple")
|dK {a:Aa} {kvs:List (Key × V)} (e:H a=some (.dK kvs)):TyOf K H (.ref a) (.type "dict")
|dT {a:Aa} {kvs:List (List Key × V)} (e:H a=some (.dT kvs)):TyOf K H (.ref a) (.type "dict")
|ins {a C dx:Aa} {fs:List (Str × V)} (e:H a=some (.ins C dx fs)) (cl:Cls K C) (ha:PySem.W.findIn K (.ref C) "__class__"=some (some<|.builtin "object.__class__"))
   (hn:PySem.W.specialIn K (.builtin "object.__class__") "__get__"=some (some<|.builtin "getset_descriptor.__get__")) (htk:PySem.W.takesIn K (.builtin "object.__class__")=some true)
   (hm:PySem.W.mroIn K C (.type "object")=some true):TyOf K H (.ref a) (.ref C)
def z4V{x:V}{u t:Ab}(I:Inv X vY σ H s)(rx:RelV x u)(ty:TyOf X.K H x t)(e:PySem.W.kitOne X.K t c=some b)(h:∀tk,Q (.bool b) {s with toks:=tk}):
  wpAny (model X.prog X.w) A (call (.builtin "isinstance") [u,c]) Q E s:=by
 cases ty with
|non=>cases (show u=Value.none from rx);exact vy PySem.W.kitx_none I.kIn True.intro e (fun z=>nomatch z) h
|bl y=>cases (show u=Value.bool y from rx);exact vy PySem.W.kitx_bool I.kIn True.intro e (fun z=>nomatch z) h
|int i=>obtain⟨t,q⟩:=(show ∃t,u=Value.int i t from rx);cases q;exact vy PySem.W.kitx_int I.kIn True.intro e (fun z=>nomatch z) h
|str y=>obtain⟨t,q⟩:=(show ∃t,u=Value.str y t from rx);cases q;exact vy PySem.W.kitx_str I.kIn True.intro e (fun z=>nomatch z) h
|flt y=>obtain⟨t,q⟩:=(show ∃t,u=Value.float y t from rx);cases q;exact vy PySem.W.kitx_float I.kIn True.intro e (fun z=>nomatch z) h
|@lst a xs ea=>
  cases (show u=Value.ref a from rx);obtain⟨_,_,n,_,h1⟩:=(show qq X.prog X.w H s.heap a (.lst xs) from I.hok a _ ea)
  exact vy PySem.W.kitx_list I.kIn ⟨_,h1,rfl⟩ e (fun z=>nomatch z) h
|@frz a ob xs ea=>
  cases (show u=Value.ref a from rx);obtain⟨_,_,_,n,_,h1⟩:=(show qq X.prog X.w H s.heap a (.frz ob<|.lst xs) from I.hok a _ ea)
  exact vy PySem.W.kitx_list I.kIn ⟨_,h1,rfl⟩ e (fun z=>nomatch z) h
|@tup a xs ea=>
  cases (show u=Value.ref a from rx);obtain⟨_,_,_,p⟩:=(show qq X.prog X.w H s.heap a (.tup xs) from I.hok a _ ea)
  obtain⟨o,h1,h2,_⟩:=p;exact vy PySem.W.kitx_tuple I.kIn ⟨o,h1,h2⟩ e (fun z=>nomatch z) h
|@dK a kvs ea=>
  cases (show u=Value.ref a from rx);obtain⟨_,_,vs,_,p⟩:=(show qq X.prog X.w H s.heap a (.dK kvs) from I.hok a _ ea)
  obtain⟨o,es,ep,h1,h2,_⟩:=p;exact vy PySem.W.kitx_dict I.kIn ⟨o,h1,h2.1⟩ e (fun z=>nomatch z) h
|@dT a kvs ea=>
  cases (show u=Value.ref a from rx);obtain⟨_,_,xs,_,o,es,ep,h1,h2,_⟩:=(show qq X.prog X.w H s.heap a (.dT kvs) from I.hok a _ ea)
  exact vy PySem.W.kitx_dict I.kIn ⟨o,h1,h2.1⟩ e (fun z=>nomatch z) h
|@ins a C dx fs ea cl ha hn htk hm=>
  cases (show u=Value.ref a from rx);obtain⟨mA,O,_⟩:=z0t I.hok ea;obtain⟨od,J,_⟩:=O.look;exact vy (PySem.W.kitx_own (cl.get _) cl.hd ha hn htk hm) I.kIn J e (fun z=>nomatch z) h
end
structure Room(k:Nat)(A:Around):Prop where
 hd:A.handled=none
 dp:A.depth+3 * k+5 < recursionLimit
 un:A.units+16 * k+200 < cLine
 gd:A.guards=some []
def Room.mono{j k:Nat}{A:Around}(r:Room k A)(h:j<=k):Room j A:=⟨r.hd,by have:=r.dp;lia,by have:=r.un;lia,r.gd⟩
def Room.deeper{k:Nat}{A:Around}(r:Room (k+1) A)(env:Env):Room k (A.deeper env):=
 ⟨r.hd,by have:=r.dp;show A.depth+1+3 * k+5 < _;lia,by have:=r.un;show A.units+3+16 * k+200 < _;lia,r.gd⟩
def z3t{A:Around}{C:Aa}{us:List Ab}{kw:List (Str × Ab)}:(A.under<|.builtin "type.__call__" ⟨.ref C::us,kw⟩).depth=A.depth+1:=by
 first|rfl|simp[Around.under,Code.weight,Code.isCreation,Code.isGuard,Code.isCaller,Code.frames,Code.isFrame,guardIds]
def z3s{A:Around}{C:Aa}{us:List Ab}{kw:List (Str × Ab)}:(A.under<|.builtin "type.__call__" ⟨.ref C::us,kw⟩).units=A.units+1:=by
 first|rfl|simp[Around.under,Code.cUnits,Code.frames,Code.isFrame]
def z20{A:Around}{C:Aa}{us:List Ab}{kw:List (Str × Ab)}:(A.under<|.builtin "type.__call__" ⟨.ref C::us,kw⟩).guards=A.guards:=by
 first|rfl|simp[Around.under,Code.isGuard,guardIds,pushGuard]
def Room.make{k:Nat}{A:Around}(r:Room (k+1) A)(C:Aa)(us:List Ab)(kw:List (Str × Ab)):Room k (A.under<|.builtin "type.__call__" ⟨.ref C::us,kw⟩):=
 ⟨r.hd,by have:=r.dp;rw[z3t];lia,by have:=r.un;rw[z3s];lia,by rw[z20];exact r.gd⟩
def Room.depth{k:Nat}{A:Around}(r:Room k A):A.depth < recursionLimit:=by have:=r.dp;lia
def Room.units{k:Nat}{A:Around}(r:Room k A):A.units+64 < cLine:=by have:=r.un;lia
def Room.units0{k:Nat}{A:Around}(r:Room k A):A.units < cLine:=by have:=r.un;lia
abbrev tNil:TA:=fun _ H Q=>Q [] H
abbrev jg(ta:TE)(tr:TA):TA:=fun σ H Q=>ta σ H fun x H1=>tr σ H1 fun xs H2=>Q (x::xs) H2
section
variable {X:Cx}{e:Expr}{es:List Expr}{te:TE}{t:TA}{pos:Pos}
def qC:PA X [] tNil:=fun _ _ _ _ H Q I h=>Calls.spliced_nil ⟨[],H,I,.nil,h⟩
def zf(ha:PE X e te)(hr:PA X es t)(hs:autoParam (starEach (e::es) X.env=(false,eval e X.env)::starEach es X.env) aR._auto_1):PA X (e::es) (jg te t):=by
 intro pos vY s σ H Q I h;rw[hs];show wpAny _ _ (spliced ((false,eval e X.env)::backTo pos (starEach es X.env))) _ _ s;refine vN (thn (ha vY s σ H _ I h) fun u s1 zz=>?_);obtain⟨x,H1,I1,r1,q1⟩:=zz;exact thn (hr pos vY s1 σ H1 _ I1 q1) fun us s2 ⟨xs,H2,I2,r2,q2⟩=>⟨x::xs,H2,I2,.cons r1 r2,q2⟩
def tTup(t:TA):TE:=fun σ H Q=>t σ H fun xs H1=>xs.length<=sizeLine/\∀p,H1 p=none->Q (.ref p) (upd H1 p<|.tup xs)
def tLst(t:TA):TE:=fun σ H Q=>t σ H fun xs H1=>xs.length<=sizeLine/\∀p,H1 p=none->Q (.ref p) (upd H1 p<|.lst xs)
def zY{x1}(h:PA X es t):PE X (.Tuple es x1 pos) (tTup t):=by
 intro vY s σ H Q I hq;refine wpAny_Tuple_spliced (thn (h pos vY s σ H _ I hq) fun us s1 ⟨xs,H1,I1,r,z,q⟩=>⟨by rw[<-r.length];exact z,?_⟩);have hf:H1 s1.heap.objs.size=none:=I1.hok.fresh (kg _);refine⟨.ref s1.heap.objs.size,upd H1 s1.heap.objs.size<|.tup xs,I1.laid (t':=s1.toks) (fun b u e=>vb _ e) (kg _) ?_,rfl,q _ hf⟩;exact⟨z,us,r,⟨_,vg _ rfl,rfl,_,rfl⟩⟩
def zO(h:PA X es t):PE X (.List es pos) (tLst t):=by
 intro vY s σ H Q I hq;refine wpAny_List_spliced (thn (h pos vY s σ H _ I hq) fun us s1 ⟨xs,H1,I1,r,z,q⟩=>⟨by rw[<-r.length];exact z,?_⟩);have hf:H1 s1.heap.objs.size=none:=I1.hok.fresh (kg _);refine⟨.ref s1.heap.objs.size,upd H1 s1.heap.objs.size<|.lst xs,I1.laid (t':=s1.toks) (fun b u e=>vb _ e) (kg _) ?_,rfl,q _ hf⟩;exact⟨z,us,0,r,vg _ rfl⟩
end
abbrev Sp:=List V->Hp->VK->XK->Prop
abbrev CXT:=List Env->Hp->Ac->XK->Ab->Ac->Prop
structure Env0(P:Program)(w:World)(K:ku)(mg:Str->Option Ab)(base:Heap)(A:Around)(vZ:List Env)(s:Ac)(H:Hp):Prop where
 frames:A.frames=some vZ
 mod:Mod K mg base
 bs:∀b o,base.get? b=some o->s.heap.get? b=some o/\H b=none
 bsz:base.objs.size<=s.heap.objs.size
 funs:s.heap.FunFrames base vZ
 frf:∀b∈frs vZ,H b=none
 hok:HOk P w H s.heap
 bare:AllBare s.gens
def CE(vZ:List Env)(P:Program)(w:World)(H:Hp)(s:Ac)(Q:VK)(u:Ab)(s':Ac):Prop:=
 ∃v H',s'.os=s.os/\AllBare s'.gens/\Un (frs vZ) [] H H' s.heap s'.heap/\HOk P w H' s'.heap/\RelV v u/\Q v H'
def CR(CX:CXT)(vZ:List Env)(P:Program)(w:World)(H:Hp)(s:Ac)(Q:VK)(E:XK)(r:Result)(s':Ac):Prop:=
 match r with
|.ok (.ret u)=>CE vZ P w H s Q u s'
|.ok _=>False
|.error e=>CX vZ H s E e s'
structure FnOk(P:Program)(w:World)(K:ku)(mg:Str->Option Ab)(base:Heap)(CX:CXT)(k:Nat)(f:Aa)(fd:FuncData)(ps:List Str)(sp:Sp):Prop where
 len:∀vs H Q E,sp vs H Q E->vs.length=ps.length
 run:∀(A:Around)(vZ:List Env)(s:Ac)(H:Hp)(args:Args)(us:List Ab)(vs:List V)(Q:VK)(E:XK),Room k A->Env0 P w K mg base A vZ s H->BindsTo s fd args (ps.zip us)->Vals vs us->sp vs H Q E->
  codeAny (model P w) A (.call (.ref f) args) (CR CX vZ P w H s Q E) s
def FnOk.mono{P:Program}{w:World}{K:ku}{mg:Str->Option Ab}{base:Heap}{CX:CXT}{j k:Nat}{f:Aa}{fd:FuncData}{ps:List Str}{sp:Sp}(F:FnOk P w K mg base CX j f fd ps sp)(h:j<=k):
  FnOk P w K mg base CX k f fd ps sp:=⟨F.len,fun A vZ s H args us vs Q E hr=>F.run A vZ s H args us vs Q E<|hr.mono h⟩
def FnOk.imp{P:Program}{w:World}{K:ku}{mg:Str->Option Ab}{base:Heap}{CX:CXT}{k:Nat}{f:Aa}{fd:FuncData}{ps:List Str}{sp sp':Sp}(F:FnOk P w K mg base CX k f fd ps sp)(h:∀vs H Q E,sp' vs H Q E->sp vs H Q E):FnOk P w K mg base CX k f fd ps sp':=
 ⟨fun vs H Q E q=>F.len vs H Q E<|h _ _ _ _ q,fun A vZ s H args us vs Q E hr he hb hv hs=>F.run A vZ s H args us vs Q E hr he hb hv<|h _ _ _ _ hs⟩
def Env0.make{P:Program}{w:World}{K:ku}{mg:Str->Option Ab}{base:Heap}{A:Around}{vZ:List Env}{s:Ac}{H:Hp}(e:Env0 P w K mg base A vZ s H)(C:Aa)(us:List Ab)(kw:List (Str × Ab)):
  Env0 P w K mg base (A.under<|.builtin "type.__call__" ⟨.ref C::us,kw⟩) vZ s H:=⟨by first|exact e.frames|(simpa [Around.under,Code.envs,Code.isFrame,pushEnvs] using e.frames),e.mod,e.bs,e.bsz,e.funs,e.frf,e.hok,e.bare⟩
section
variable {X:Cx}{vY:List (Aa × Obj)}{σ:St}{H:Hp}{s s':Ac}
def Inv.env0(I:Inv X vY σ H s):Env0 X.prog X.w X.K X.mg X.base X.A X.stack s H:=
 ⟨I.ok.frames,I.ok.mod,I.bs,kr I.ok.bsz I.sz,I.stack,I.stkFree,I.hok,I.bare⟩
def Inv.after{Q:VK}{u:Ab}(I:Inv X vY σ H s)(h:CE X.stack X.prog X.w H s Q u s'):EP X vY σ Q u s':=by
 obtain⟨v,H',os,bare,un,hok,r,q⟩:=h;obtain⟨hh,g,d,t,os'⟩:=s';obtain rfl:os'=s.os:=os;exact⟨v,H',I.call (h':=hh) (g':=g) (d':=d) (t':=t) (ch:=[]) un hok bare (fun b z=>vd z<|by simp),r,q⟩
end
abbrev z1A(sp:Sp)(dvs:List V)(E:XK)(t:TA):TE:=fun σ H Q=>t σ H fun vs H1=>sp (vs++dvs) H1 Q E
def z9r(C:Aa)(m:Str)(sp:Sp)(dvs:List V)(E:XK)(ta:TE)(t:TA):TE:=fun σ H Q=>ta σ H fun x H1=>∃a dx fs,x=.ref a/\H1 a=some (.ins C dx fs)/\fs.lookup m=none/\
 t σ H1 fun vs H2=>sp (x::(vs++dvs)) H2 Q E
def z9s(C:Aa)(sp:Sp)(dvs:List V)(E:XK)(t:TA):TE:=fun σ H Q=>t σ H fun vs H1=>∀x dx,H1 x=none->H1 dx=none->dx≠x->
 sp (.ref x::(vs++dvs)) (upd (upd H1 dx<|.own x) x<|.ins C dx []) (fun v H2=>v=.non/\Q (.ref x) H2) E
def Zt(K:ku)(fd:FuncData)(ps:List Str)(ds:List Ab):Prop:=
 ∀(s:Ac)(us:List Ab),K.In s.heap->(us++ds).length=ps.length->BindsTo s fd ⟨us,[]⟩ (ps.zip (us++ds))
def Zt.all{K:ku}{fd:FuncData}{ps:List Str}(h:∀us:List Ab,us.length=ps.length->bindArgs fd ⟨us,[]⟩=pure (ps.zip us)):Zt K fd ps []:=fun s us _ hl=>by
 rw[kW] at hl ⊢
 exact .of_eq (h us hl)
def Jr(CX:CXT)(X:Cx)(E:XK):Prop:=∀(vY:List (Aa × Obj))(σ:St)(H:Hp)(s:Ac)(e:Ab)(s':Ac),Inv X vY σ H s->CX X.stack H s E e s'->X.xe e s'
section
variable {X:Cx}{CX:CXT}{k:Nat}{f C:Aa}{fd:FuncData}{ps:List Str}{sp:Sp}{dvs:List V}{ds:List Ab}{E:XK}{x m:Str}{p pos apos:Pos}{e o:Expr}{es:List Expr}{ta:TE}{t:TA}
def z2s{vY:List (Aa × Obj)}{σ:St}{H:Hp}{s:Ac}{Q:VK}{us:List Ab}{vs:List V}(F:FnOk X.prog X.w X.K X.mg X.base CX k f fd ps sp)(hr:Room k X.A)(hb:Zt X.K fd ps ds)(hd:Vals dvs ds)(hx:Jr CX X E)(I:Inv X vY σ H s)(r:Vals vs us)(h:sp (vs++dvs) H Q E):wpAny (model X.prog X.w) X.A (call (.ref f) us) (EP X vY σ Q) X.xe s:=by
 have r2:Vals (vs++dvs) (us++ds):=r.append hd;have hl:(us++ds).length=ps.length:=by rw[<-r2.length];exact F.len _ _ _ _ h
 refine wpAny_call (codeAny_mono (F.run X.A X.stack s H ⟨us,[]⟩ (us++ds) (vs++dvs) Q E hr I.env0 (hb s us I.kIn hl) r2 h) fun r s' hq=>?_);cases r with
|error e=>exact hx vY σ H s e s' I hq
|ok fl=>
  cases fl with
 |ret u=>exact I.after hq
 |next=>exact False.elim hq
 |brk=>exact False.elim hq
 |cont=>exact False.elim hq
def z4t(F:FnOk X.prog X.w X.K X.mg X.base CX k f fd ps sp)(hr:Room k X.A)(hg:Gl X x)(hm:X.mg x=some (.ref f))(hk:PySem.W.keepIn X.K (.ref f)=true)(hb:Zt X.K fd ps ds)(hd:Vals dvs ds)(hx:Jr CX X E)(ha:PA X (e::es) t)(hdb:autoParam ((x == ("__debug__":Str))=false) aR._auto_2)(he:autoParam (starEach (e::es) X.env=(false,eval e X.env)::starEach es X.env) aR._auto_1)(hpl:autoParam ((backTo pos<|starEach es X.env).any (·.1)=false) aR._auto_1):
  PE X (.Call (.Name x p) (e::es) [] pos) (z1A sp dvs E t):=by
 intro vY s σ H Q I h;refine vR (ZD I hg hm ?_ hdb);refine PySem.W.callWith_K (h₀:=X.base) I.ok.mod.kin hk (thn (ha pos vY s σ H _ I h) fun us s1 ⟨vs,H1,I1,r,q⟩=>⟨I1.kIn,?_⟩) he hpl;exact z2s F hr hb hd hx I1 r q
def z6j(F:FnOk X.prog X.w X.K X.mg X.base CX k f fd ps sp)(hr:Room k X.A)(hg:Gl X x)(hm:X.mg x=some (.ref f))(hk:PySem.W.keepIn X.K (.ref f)=true)(hb:Zt X.K fd ps ds)(hd:Vals dvs ds)(hx:Jr CX X E)(hdb:autoParam ((x == ("__debug__":Str))=false) aR._auto_2):PE X (.Call (.Name x p) [] [] pos) (z1A sp dvs E tNil):=by
 intro vY s σ H Q I h;refine vR (ZD I hg hm ?_ hdb);exact PySem.W.callWith_K0 I.kIn hk (z2s (us:=[]) F hr hb hd hx I .nil h)
def z6a{pl:Sem Bool}(he:PE X o ta)(c:Cls X.K C)(hm:Meth X.K C m f)(F:FnOk X.prog X.w X.K X.mg X.base CX k f fd ps sp)(hr:Room k X.A)(hb:Zt X.K fd ps ds)(hd:Vals dvs ds)(hx:Jr CX X E)(ht:autoParam (eval (.Call (.Attribute o m apos) [] [] pos) X.env=(do
   let ov <-eval o X.env
   standAt apos.atName
   let (f,first) <-holding [ov] (getMethod ov m pl)
   callWith pos f first (backTo pos<|starEach [] X.env) (backToKw pos<|keywordEach [] X.env))) aR._auto_1):
  PE X (.Call (.Attribute o m apos) [] [] pos) (z9r C m sp dvs E ta tNil):=by
 intro vY s σ H Q I h;refine PySem.W.methodCall_KW (pl:=pl) (thn (he vY s σ H _ I h) fun u s1 ⟨x,H1,I1,rx,a,dx,fs,ex,ea,l,q⟩=>?_) ht;subst ex;obtain rfl:u=Value.ref a:=rx;refine z3A I1 ea c hm l ?_;exact PySem.W.callWith_K0 (first:=[.ref a]) I1.kIn hm.kp (z2s (us:=[.ref a]) (vs:=[.ref a]) F hr hb hd hx I1 (.cons rfl .nil) q)
structure Mk(K:ku)(C f:Aa):Prop where
 makes:PySem.W.makesIn K C=true
 init:PySem.W.findIn K (.ref C) "__init__"=some (some<|.ref f)
 fn:PySem.W.isFn K (.ref f)=true
 kp:PySem.W.keepIn K (.ref C)=true
def z62{vY:List (Aa × Obj)}{σ:St}{H:Hp}{s:Ac}{Q:VK}{us:List Ab}{vs:List V}(M:Mk X.K C f)(F:FnOk X.prog X.w X.K X.mg X.base CX k f fd ps sp)(hr:Room (k+1) X.A)(hb:Zt X.K fd ps ds)(hd:Vals dvs ds)(hx:Jr CX X E)(I:Inv X vY σ H s)(r:Vals vs us)(h:∀x dx,H x=none->H dx=none->dx≠x->sp (.ref x::(vs++dvs)) (upd (upd H dx<|.own x) x<|.ins C dx []) (fun v H2=>v=.non/\Q (.ref x) H2) E):
  wpAny (model X.prog X.w) X.A (call (.ref C) us) (EP X vY σ Q) X.xe s:=by
 have hq:=h (s.heap.objs.size+1) s.heap.objs.size (I.hok.fresh<|Nat.le_succ _) (I.hok.fresh<|kg _) (vn<|yb _);have I2:=Inv.made (C:=C) I;have r2:Vals (V.ref (s.heap.objs.size+1)::(vs++dvs)) (Value.ref (s.heap.objs.size+1)::(us++ds)):=.cons rfl (r.append hd);have hl:(Value.ref (s.heap.objs.size+1)::us++ds).length=ps.length:=by
  have e:=r2.length;rw[F.len _ _ _ _ hq] at e;exact e.symm
 refine wpAny_call (z6w (f:=f) I.kIn M.makes M.init (beq_iff_eq.mp M.fn) (codeAny_mono (F.run _ X.stack _ _ ⟨Value.ref (s.heap.objs.size+1)::us,[]⟩ (Value.ref (s.heap.objs.size+1)::(us++ds)) _ _ E (hr.make C us [])
  (I2.env0.make C us []) (hb _ (Value.ref (s.heap.objs.size+1)::us) I2.kIn hl) r2 hq) fun r s' hq'=>?_))
 cases r with
|error e=>exact hx vY σ _ _ e s' I2 hq'
|ok fl=>
  cases fl with
 |ret u=>
   obtain⟨v,H',I3,rv,ev,q3⟩:=I2.after hq';subst ev;exact⟨rv,⟨V.ref (s.heap.objs.size+1),H',I3,rfl,q3⟩⟩
 |next=>exact False.elim hq'
 |brk=>exact False.elim hq'
 |cont=>exact False.elim hq'
def z8b(M:Mk X.K C f)(F:FnOk X.prog X.w X.K X.mg X.base CX k f fd ps sp)(hr:Room (k+1) X.A)(hg:Gl X x)(hm:X.mg x=some (.ref C))(hb:Zt X.K fd ps ds)(hd:Vals dvs ds)(hx:Jr CX X E)(ha:PA X (e::es) t)(hdb:autoParam ((x == ("__debug__":Str))=false) aR._auto_2)(he:autoParam (starEach (e::es) X.env=(false,eval e X.env)::starEach es X.env) aR._auto_1)(hpl:autoParam ((backTo pos<|starEach es X.env).any (·.1)=false) aR._auto_1):
  PE X (.Call (.Name x p) (e::es) [] pos) (z9s C sp dvs E t):=by
 intro vY s σ H Q I h;refine vR (ZD I hg hm ?_ hdb);refine PySem.W.callWith_K (h₀:=X.base) I.ok.mod.kin M.kp (thn (ha pos vY s σ H _ I h) fun us s1 ⟨vs,H1,I1,r,q⟩=>⟨I1.kIn,?_⟩) he hpl;exact z62 M F hr hb hd hx I1 r q
end
structure zj(N P:List Str)(sc:Scope):Prop where
 kind:sc.kind=.function
 co:sc.isCoroutine=false
 gen:sc.isGenerator=false
 nd:N.Nodup
 pre:N.take P.length=P
 par:∀x∈P,sc.names.lookup x=some .local\/sc.names.lookup x=some .cell
 nofree:∀y∈sc.names,y.2≠.free
def z1t{kindOf:Str->Option NameKind}{x:Str}:∀{binds:List (Str × Ab)}{m:Str->Option Ab},(∀v,(x,v)∉binds)->bindL kindOf binds m x=m x
|[],_,_=>rfl
|(n,v)::r,m,h=>by
  unfold bindL;rw[z1t fun w hw=>h w<|kR _ hw];split
  ·have:x≠n:=by rintro rfl;exact h v kQ
   simp[this]
  ·rfl
def z1v{kindOf:Str->Option NameKind}{x:Str}:∀{binds:List (Str × Ab)}{m:Str->Option Ab},(∀v,(x,v)∉binds)->bindC kindOf binds m x=m x
|[],_,_=>rfl
|(n,v)::r,m,h=>by
  unfold bindC;rw[z1v fun w hw=>h w<|kR _ hw];split
  ·rfl
  ·have:x≠n:=by rintro rfl;exact h v kQ
   simp[this]
def z1u{kindOf:Str->Option NameKind}{x:Str}{v:Ab}:∀{P:List Str}{vs:List Ab}{i:Nat}{m:Str->Option Ab},P.Nodup->P[i]?=some x->vs[i]?=some v->kindOf x=some .local->
  bindL kindOf (P.zip vs) m x=some v
|[],_,_,_,_,h,_,_=>by simp at h
|_::_,[],_,_,_,_,h,_=>by simp at h
|p::P,w::vs,0,m,nd,h1,h2,hk=>by
  simp at h1 h2;subst h1;subst h2
  show bindL kindOf ((p,w)::P.zip vs) m p=_;unfold bindL;rw[z1t fun v hv=>(List.nodup_cons.mp nd).1 (List.of_mem_zip hv).1,kz hk];simp
|p::P,w::vs,i+1,m,nd,h1,h2,hk=>by
  show bindL kindOf ((p,w)::P.zip vs) m x=_;unfold bindL;exact z1u (i:=i) (List.nodup_cons.mp nd).2 (by simpa using h1) (by simpa using h2) hk
def z1w{kindOf:Str->Option NameKind}{x:Str}{v:Ab}:∀{P:List Str}{vs:List Ab}{i:Nat}{m:Str->Option Ab},P.Nodup->P[i]?=some x->vs[i]?=some v->kindOf x≠some .local->
  bindC kindOf (P.zip vs) m x=some v
|[],_,_,_,_,h,_,_=>by simp at h
|_::_,[],_,_,_,_,h,_=>by simp at h
|p::P,w::vs,0,m,nd,h1,h2,hk=>by
  simp at h1 h2;subst h1;subst h2
  show bindC kindOf ((p,w)::P.zip vs) m p=_;unfold bindC;rw[z1v fun v hv=>(List.nodup_cons.mp nd).1 (List.of_mem_zip hv).1,ky hk];simp
|p::P,w::vs,i+1,m,nd,h1,h2,hk=>by
  show bindC kindOf ((p,w)::P.zip vs) m x=_;unfold bindC;exact z1w (i:=i) (List.nodup_cons.mp nd).2 (by simpa using h1) (by simpa using h2) hk
noncomputable def start(N:List Str)(vs:List V):St:=vs.map some++List.replicate (N.length - vs.length) none
noncomputable def cxOf(CX:CXT)(P:Program)(w:World)(K:ku)(mg:Str->Option Ab)(base:Heap)(N:List Str)(qual:Str)(scope:Scope)(f:Aa)(cd:Ab)(A:Around)(vZ:List Env)(s:Ac)(H:Hp)(E:XK):Cx where
 prog:=P
 w:=w
 K:=K
 mg:=mg
 base:=base
 A:=A.deeper (envOfC qual scope s.heap.objs.size f cd)
 N:=N
 s₀:=s
 H₀:=H
 env:=envOfC qual scope s.heap.objs.size f cd
 vZ:=vZ
 stack:=envOfC qual scope s.heap.objs.size f cd::vZ
 ex:=[]
 calm:=true
 fn:=fun _=>true
 pn:=[]
 xe:=fun e s'=>wpAny (model P w) (A.deeper<|envOfC qual scope s.heap.objs.size f cd) (leaving (envOfC qual scope s.heap.objs.size f cd) e) (fun _ s''=>CX vZ H s E e s'') (fun e' s''=>CX vZ H s E e' s'') s'
def z2Z{sc:Scope}{n:Nat}{x:Str}(h:sc.names.lookup x=some .cell):∃c,(cellsFrom n sc.names []).lookup x=some c:=by
 have q:=PySem.W.cellsFrom_some sc.names n [] (.inl h);exact Ag.mp q
def z4W{CX:CXT}{P:Program}{w:World}{K:ku}{mg:Str->Option Ab}{base:Heap}{N ps:List Str}{qual:Str}{scope:Scope}{f:Aa}{cd:Ab}{A:Around}{vZ:List Env}{s s1:Ac}{H:Hp}{E:XK}{us:List Ab}{vs:List V}(S:zj N ps scope)(hd:A.handled=none)(e0:Env0 P w K mg base A vZ s H)(hl:vs.length=ps.length)(r:Vals vs us)(x:InCallC s s.heap.objs.size (bindL (envOfC qual scope s.heap.objs.size f cd).kindOf (ps.zip us) fun _=>none) (cellsFrom (s.heap.objs.size+1) scope.names []) (bindC (envOfC qual scope s.heap.objs.size f cd).kindOf (ps.zip us) fun _=>none) s1):
  Inv (cxOf CX P w K mg base N qual scope f cd A vZ s H E) [] (start N vs) H s1:=by
 have hpl:ps.length<=N.length:=by have:=vI List.length S.pre;rw[vq] at this;lia
 obtain⟨h1,tk,rfl,hk⟩:=x.done;have noA:∀b:Aa,b∉(cxOf CX P w K mg base N qual scope f cd A vZ s H E).ex:=fun b z=>vd (show b∈([]:List Aa) from z) (by simp)
 refine⟨⟨e0.mod,S.kind,rfl,rfl,kg _,fun y z c h1 h2=>?_,fun y hy=>?_,fun y c _ h=>?_,fun _=>hd,Around.frames_deeper e0.frames,.inr ⟨rfl,rfl⟩,fun b z=>vd z<|noA b,e0.bs,e0.bsz,fun b _ _=>noA b,fun b z=>vd z<|noA b,e0.funs,e0.frf⟩,
  rfl,e0.bare,Un.kept hk,⟨_,x.toInCall.ns,fun i y v h1 h2 h3=>?_⟩,fun y c h=>⟨_,x.cell y c h⟩,e0.hok.fresh<|kg _,fun y c h=>?_,fun p hp=>vd (show p∈([]:List (Aa × Obj)) from hp) (by simp),e0.hok.kept hk,?_⟩
 ·exact name_of_addr x.apart (vc h1) (vc h2)
 ·have hy:scope.names.lookup y=some .cell\/scope.names.lookup y=some .free:=hy;rcases hy with hy|hy
  ·exact z2Z hy
  ·exact vd rfl (S.nofree _<|vc hy)
 ·exact Nat.le_of_lt (x.above y c<|vc h)
 ·have hi:i < vs.length:=by
   unfold start at h2;by_cases hi:i < vs.length
   ·exact hi
   ·rw[yh<|by simpa using hi] at h2;rw[vt] at h2;split at h2 <;> cases h2
  have ha:vs[i]?=some v:=by
   unfold start at h2;rw[yg (by simpa using hi),vh] at h2;cases e:vs[i]? with
  |none=>rw[e] at h2;cases h2
  |some a=>rw[e] at h2;cases h2;rfl
  obtain⟨u,hu,rv⟩:=r.get ha;have hp:ps[i]?=some y:=by
   rw[<-S.pre,List.getElem?_take_of_lt<|by lia];exact h1
  have ndP:ps.Nodup:=by rw[<-S.pre];exact S.nd.sublist (List.take_sublist _ _)
  refine⟨u,rv,?_⟩;rcases S.par y (kH hp) with k|k
  ·exact .inl ⟨k,z1u ndP hp hu k⟩
  ·obtain⟨c,e⟩:=z2Z (n:=s.heap.objs.size+1) k;refine .inr ⟨.inl k,c,e,?_⟩;have q:=x.cell y c e;rw[z1w ndP hp hu<|by show scope.names.lookup y≠_;rw[k];decide] at q;exact q
 ·exact e0.hok.fresh (Nat.le_of_lt<|x.above y c<|vc h)
 ·unfold start;show _=N.length;rw[km,kl,vk];lia
def zaM{CX:CXT}{P:Program}{w:World}{K:ku}{mg:Str->Option Ab}{base:Heap}{k:Nat}{f:Aa}{name qual:Str}{params:Arguments}{body:List Stmt}{scope:Scope}{dV kV doc pm cdv ct oc:Ab}{an od:Option Aa}{osl:Array (Option Ab)}{N ps:List Str}{sp:Sp}(lk:K.lookup f=some ⟨oc,od,.func<|PySem.W.fnOf name qual params body scope dV kV doc pm an cdv ct,osl⟩)(hcd:PySem.W.codeIn K cdv qual=true)(S:zj N ps scope)(len:∀vs H Q E,sp vs H Q E->vs.length=ps.length)(hbody:∀(A:Around)(vZ:List Env)(s:Ac)(H:Hp)(vs:List V)(Q:VK)(E:XK),Room k (A.deeper<|envOfC qual scope s.heap.objs.size f cdv)->sp vs H Q E->
   ∃t,PSs (cxOf CX P w K mg base N qual scope f cdv A vZ s H E) body t/\t {nx:=fun _ H'=>Q .non H',rt:=Q} (start N vs) H):
  FnOk P w K mg base CX (k+1) f (PySem.W.fnOf name qual params body scope dV kV doc pm an cdv ct) ps sp:=by
 refine⟨len,fun A vZ s H args us vs Q E hr e0 hb r hsp=>?_⟩;have hl:=len _ _ _ _ hsp;have KX:K.In s.heap:=e0.mod.kin.keeps fun b o e=>(e0.bs b o e).1
 have lim:s.heap.NoLimit:=e0.mod.nolimit.keeps fun b o e=>(e0.bs b o e).1
 have hkind:∀y∈ps.zip us,scope.names.lookup y.1=some .local\/(scope.names.lookup y.1=some .cell/\((cellsFrom (s.heap.objs.size+1) scope.names []).lookup y.1).isSome=true):=fun ⟨n,v⟩ hy=>by
  rcases S.par n (List.of_mem_zip hy).1 with q|q
  ·exact .inl q
  ·exact .inr ⟨q,PySem.W.cellsFrom_some _ _ _<|.inl q⟩
 refine codeAny_call_function hr.depth (KX _ _ lk) rfl S.co S.gen rfl (PySem.W.codeRec_of KX hcd) (hb _ _ _ _ ?_);refine wpAny_newFunctionEnv_cells S.kind hkind fun env he s1 x=>?_
 subst he;refine⟨lim.keeps x.toInCall.keep,codeAny_func ?_⟩;obtain⟨t,ht,hq⟩:=hbody A vZ s H vs Q E (hr.deeper _) hsp;have I:Inv (cxOf CX P w K mg base N qual scope f cdv A vZ s H E) [] (start N vs) H s1:=z4W S hr.hd e0 hl r x;refine vM (ht [] s1 (start N vs) H _ I hq) (fun fl s' hs=>?_) fun e s' hs=>hs
 have fin:∀{σ':St}{H':Hp}{v:V}{u:Ab},Inv (cxOf CX P w K mg base N qual scope f cdv A vZ s H E) [] σ' H' s'->RelV v u->Q v H'->CE vZ P w H s Q u s':=
  fun {σ' H' v u} J rv q=>⟨v,H',J.os,J.bare,J.base,J.hok,rv,q⟩
 cases fl with
|ret u=>
  obtain⟨v,σ',H',J,rv,q⟩:=hs;exact fin J rv q
|next=>
  obtain⟨σ',H',J,q⟩:=hs;exact fin (v:=V.non) (u:=Value.none) J rfl q
|brk=>
  obtain⟨_,_,_,q⟩:=hs;exact False.elim q
|cont=>
  obtain⟨_,_,_,q⟩:=hs;exact False.elim q
section
variable {X:Cx}{x:Str}{p pos:Pos}{e:Expr}{es:List Expr}{t:TA}{id T:String}{r:List V->Hp->VK->Prop}
def tCB(r:List V->Hp->VK->Prop)(t:TA):TE:=fun σ H Q=>t σ H fun vs H1=>r vs H1 Q
def zq(hc:Zs X (.builtin id) r)(hg:Gl X x)(hm:X.mg x=none)(hv:bootBuiltins x=some (.builtin id))(ha:PA X (e::es) t)(hn:autoParam (x≠"__name__") aR._auto_2)(hdb:autoParam ((x == ("__debug__":Str))=false) aR._auto_2)(he:autoParam (starEach (e::es) X.env=(false,eval e X.env)::starEach es X.env) aR._auto_1)(hpl:autoParam ((backTo pos<|starEach es X.env).any (·.1)=false) aR._auto_1):PE X (.Call (.Name x p) (e::es) [] pos) (tCB r t):=by
 intro vY s σ H Q I h;refine vR (Je I hg hm hv ?_ hn hdb);exact PyProof.Rows.callWith_builtin1 (thn (ha pos vY s σ H _ I h) fun us s1 ⟨vs,H1,I1,r1,q1⟩=>hc vY s1 σ H1 vs us Q I1 r1 q1) he hpl
def ja(hc:Zs X (.type T) r)(hg:Gl X x)(hm:X.mg x=none)(hv:bootBuiltins x=some (.type T))(ha:PA X (e::es) t)(hn:autoParam (x≠"__name__") aR._auto_2)(hdb:autoParam ((x == ("__debug__":Str))=false) aR._auto_2)(he:autoParam (starEach (e::es) X.env=(false,eval e X.env)::starEach es X.env) aR._auto_1)(hpl:autoParam ((backTo pos<|starEach es X.env).any (·.1)=false) aR._auto_1):PE X (.Call (.Name x p) (e::es) [] pos) (tCB r t):=by
 intro vY s σ H Q I h;refine vR (Je I hg hm hv ?_ hn hdb);exact vK (thn (ha pos vY s σ H _ I h) fun us s1 ⟨vs,H1,I1,r1,q1⟩=>hc vY s1 σ H1 vs us Q I1 r1 q1) he hpl
end
end L2
namespace HT
open PySem PyProof.Rows
section
open PySem.SeqAt
open PySem.AutoSeq1 (wpAny_loadPart')
open PySem.MeetsSeq PySem.MeetsSeq2 PySem.MeetsSeq3
end
section
variable {prog:Program}{w:World}{A:Around}{E:Ab->Ac->Prop}{s:Ac}
def cat_tup{t b:Aa}{vs ws:List Ab}{Q:Ab->Ac->Prop}(ht:IsTup s.heap t vs.toArray)(hb:IsTup s.heap b ws.toArray)(hv:vs≠[])(h1:ws=[]->Q (.ref t) s)(h2:ws≠[]->Q (.ref s.heap.objs.size) {s with heap:=s.heap.push {cls:=.type "tuple",data:=.seq (vs++ws).toArray} })(hsz:vs.length+ws.length<=sizeLine):wpAny (model prog w) A (binaryOp .Add (.ref t)<|.ref b) Q E s:=by
 obtain⟨⟨cls,dd,data,sl⟩,ho,hc,n,hd⟩:=id ht;obtain⟨⟨cls2,dd2,data2,sl2⟩,ho2,hc2,n2,hd2⟩:=id hb;simp only at hc hd hc2 hd2;subst hc hd hc2 hd2;have e:vs.toArray++ws.toArray=(vs++ws).toArray:=by simp
 by_cases hw:ws=[]
 ·exact concat_meets ⟨_,ho,rfl⟩ ⟨_,ho2,rfl⟩ noFill_tuple_add seq_tuple_add PySem.F.slot_tuple_add PySem.F.entry_tuple_add (PySem.F.args_tuple_add_2 _ _)
   (tuple_addW1 t b vs.toArray ws.toArray n n2 dd dd2 sl sl2 (by simpa using hv)<|by simp[hw]) ⟨ho,ho2,h1 hw⟩
 ·refine concat_meets ⟨_,ho,rfl⟩ ⟨_,ho2,rfl⟩ noFill_tuple_add seq_tuple_add PySem.F.slot_tuple_add PySem.F.entry_tuple_add (PySem.F.args_tuple_add_2 _ _)
   (tuple_addW2 t b vs.toArray ws.toArray n n2 dd dd2 sl sl2 (by simpa using hv) (by simpa using hw)<|by rw[kF,kF];exact hsz) ⟨ho,ho2,?_⟩
  rw[e];exact h2 hw
noncomputable def sIx(n d:Nat):Option Int->Nat
|none=>d
|some v=>if v < 0 then (v+(n:Int)).toNat else min v.toNat n
def z9M(n d:Nat)(hd:d<=n)(o:Option Int):sIx n d o<=n:=by
 cases o with
|none=>exact hd
|some v=>
  show (if v < 0 then (v+(n:Int)).toNat else min v.toNat n)<=n;by_cases hv:v < 0
  ·rw[kz hv];lia
  ·rw[ky hv];exact Nat.min_le_right _ _
def z5w(v:Int)(n d:Nat):(if v < 0 then max (v+(n:Int)) 0 else min v (n:Int))=((sIx n d (some v):Nat):Int):=by
 show (if v < 0 then max (v+(n:Int)) 0 else min v (n:Int))=(((if v < 0 then (v+(n:Int)).toNat else min v.toNat n):Nat):Int)
 by_cases hv:v < 0
 ·simp only[kz hv];lia
 ·simp only[ky hv];lia
def z3N(lo hi:Option Int)(n:Nat):Builtin.Slice.sliceAdjust lo hi 1 (n:Int)=(((sIx n 0 lo:Nat):Int),((sIx n n hi:Nat):Int)):=by
 have h1:¬((1:Int) < 0):=by lia
 unfold Builtin.Slice.sliceAdjust;simp only[h1,if_false];refine Prod.ext ?_ ?_
 ·cases lo with
 |none=>rfl
 |some v=>exact z5w v n 0
 ·cases hi with
 |none=>rfl
 |some v=>exact z5w v n n
def z3e(i j:Nat):Builtin.Slice.slicePlaces (i:Int) (j:Int) 1=j - i:=by
 unfold Builtin.Slice.slicePlaces;have h1:(1:Int) > 0:=by lia
 simp only[h1,if_true,Int.ediv_one];split <;> lia
def JA{v:Ab}{o:Option Int}{Q:Option Int->Ac->Prop}(p:IsPart v o)(h:Q o s):wpAny (model prog w) A (Builtin.Slice.slicePartIndex v) Q E s:=by
 cases p with
|none=>exact slicePart_none h
|int i t=>exact slicePart_int h
def QC{sl:Aa}{vl vu:Ab}{lo hi:Option Int}{n:Nat}{Q:Int × Int × Nat->Ac->Prop}(hs:s.heap.IsSliceOf sl vl vu .none)(pl:IsPart vl lo)(pu:IsPart vu hi)(h:Q (((sIx n 0 lo:Nat):Int),1,sIx n n hi - sIx n 0 lo) s):wpAny (model prog w) A (Builtin.Slice.sliceApplied (.ref sl)<|pure (n:Int)) Q E s:=by
 obtain⟨os,hos,hcs,hds⟩:=id hs;unfold Builtin.Slice.sliceApplied Builtin.Slice.sliceFields;refine va (va<|wpAny_field hos hds (x:=vl) rfl<|va<|wpAny_field hos hds (x:=vu) rfl<|va<|wpAny_field hos hds (x:=.none) rfl<|ve ?_);refine va (slicePart_none ?_);show wpAny _ _ (if ((1:Int) == 0)=true then _ else _) _ _ s;rw[ky<|by decide];refine va (JA pl<|va<|JA pu<|va<|ve ?_);show wpAny _ _ (match Builtin.Slice.sliceAdjust lo hi 1 (n:Int) with|(lo,hi)=>pure (lo,(1:Int),Builtin.Slice.slicePlaces lo hi 1)) _ _ s;rw[z3N lo hi n];show wpAny _ _ (pure (((sIx n 0 lo:Nat):Int),(1:Int),Builtin.Slice.slicePlaces ((sIx n 0 lo:Nat):Int) ((sIx n n hi:Nat):Int) 1)) _ _ s;rw[z3e];exact ve h
def z66(xs:Array Ab)(i k:Nat):((List.range k).filterMap fun (m:Nat)=>xs[((i:Int)+(m:Int) * 1).toNat]?).toArray=((xs.toList.drop i).take k).toArray:=by
 have e:(fun (m:Nat)=>xs[((i:Int)+(m:Int) * 1).toNat]?)=fun m=>xs[i+m]?:=by
  funext m
  have:((i:Int)+(m:Int) * 1).toNat=i+m:=by lia
  rw[this]
 rw[e];have:=pick_run xs i k
 rw[List.filterMap_map] at this;have e2:((fun x=>xs[x]?) ∘ fun x=>i+x)=fun m=>xs[i+m]?:=rfl
 rw[e2] at this;rw[this]
def getItem_tuple_cut{t sl:Aa}{items:Array Ab}{vl vu:Ab}{lo hi:Option Int}{Q:Ab->Ac->Prop}(ht:IsTup s.heap t items)(hs:s.heap.IsSliceOf sl vl vu .none)(pl:IsPart vl lo)(pu:IsPart vu hi)(hw:¬(sIx items.size 0 lo=0/\sIx items.size items.size hi=items.size))(h:Q (.ref s.heap.objs.size) {s with heap:=s.heap.push {cls:=.type "tuple",data:=.seq ((items.toList.drop<|sIx items.size 0 lo).take (sIx items.size items.size hi - sIx items.size 0 lo)).toArray} })(hsz:items.size<=sizeLine):wpAny (model prog w) A (getItem (.ref t)<|.ref sl) Q E s:=by
 have htake:sizeOk (.seq ((items.toList.drop<|sIx items.size 0 lo).take (sIx items.size items.size hi - sIx items.size 0 lo)).toArray):=by
  show ((items.toList.drop<|sIx items.size 0 lo).take (sIx items.size items.size hi - sIx items.size 0 lo)).toArray.size<=sizeLine;rw[kF,vq,List.length_drop,Array.length_toList];lia
 have hj:sIx items.size items.size hi<=items.size:=z9M _ _ (kg _) hi;obtain⟨os,hos,hcs,hds⟩:=id hs;have hTs:s.TypeIs (.ref sl) "slice":=⟨os,hos,hcs⟩
 unfold getItem
 try with_reducible refine wpAny_holding ?_
 first|refine va (ve ?_)|skip
 refine va (wpAny_sequenceKey ht.typeIs (by decide) ?_);refine va (wpAny_callSpecial?_slot (name:=Str.ofString "__getitem__") ht.typeIs PyProof.Rows.slot_tuple_getitem
  (wpAny_call_entry PyProof.Rows.slot_tuple_getitem ht.typeIs entry_tuple_getitem ?_<|args_tuple_getitem _ _))
 show wpAny _ _ (Builtin.Tuple.tupleItemsOf (.ref t) >>= _) _ _ s;refine va (tupleItemsOf_ ht ?_);refine va (wpAny_typeOf hTs ?_);rw[kz<|by decide];refine va (QC hs pl pu ?_);have hno:¬((((sIx items.size 0 lo:Nat):Int) == 0&&(1:Int) == 1&&(sIx items.size items.size hi - sIx items.size 0 lo) == items.size)=true):=by
  intro q;rw[yd,yd] at q;have q1:((sIx items.size 0 lo:Nat):Int)=0:=eq_of_beq q.1.1;have q2:sIx items.size items.size hi - sIx items.size 0 lo=items.size:=eq_of_beq q.2;exact hw ⟨by lia,by lia⟩
 show wpAny _ _ (if (((sIx items.size 0 lo:Nat):Int) == 0&&(1:Int) == 1&&(sIx items.size items.size hi - sIx items.size 0 lo) == items.size)=true then _ else _) _ _ s;rw[ky hno,z66]
 first
 |exact va (m:=Builtin.Tuple.tupleExact _) (vJ (ve ⟨_,rfl,ve h⟩) htake)
 |exact va (m:=Builtin.Tuple.tupleExact _) (vJ (va<|ve<|ve ⟨_,rfl,ve h⟩) htake)
 |exact va (va (m:=Builtin.Tuple.tupleExact _)<|vJ (ve<|ve ⟨_,rfl,ve h⟩) htake)
 |exact va (va (m:=Builtin.Tuple.tupleExact _)<|vJ (ve ⟨_,rfl,ve h⟩) htake)
end
end HT
namespace L2
abbrev TO:=St->Hp->(Option Int->Hp->Prop)->Prop
def PO(X:Cx)(e:Option Expr)(t:TO):Prop:=
 ∀(vY:List (Aa × Obj))(s:Ac)(σ:St)(H:Hp)(Q:Option Int->Hp->Prop),Inv X vY σ H s->t σ H Q->
  wpAny (model X.prog X.w) X.A (evalPart e X.env) (fun u s'=>∃o H',Inv X vY σ H' s'/\IsPart u o/\Q o H') X.xe s
def z7R:TO:=fun _ H Q=>Q none H
def zbc(t:TE):TO:=fun σ H Q=>t σ H fun x H1=>∃i,x=.int i/\Q (some i) H1
section
variable {X:Cx}{e:Expr}{te:TE}{lo hi:Option Expr}{tl th:TO}{pos p2:Pos}
def z1T:PO X none z7R:=by
 intro vY s σ H Q I h;rw[evalPart_none];exact ve ⟨none,H,I,.none,h⟩
def z1S(h:PE X e te):PO X (some e) (zbc te):=by
 intro vY s σ H Q I hw;rw[evalPart_some];refine thn (h vY s σ H _ I hw) fun u s1 zz=>?_
 obtain⟨x,H1,I1,r1,q1⟩:=zz;obtain⟨i,rfl,q⟩:=q1;obtain⟨t,rfl⟩:=r1;exact⟨some i,H1,I1,.int i t,q⟩
def SlR(X:Cx)(r:V->Option Int->Option Int->Hp->VK->Prop):Prop:=
 ∀(vY:List (Aa × Obj))(s:Ac)(σ:St)(H:Hp)(x:V)(v vl vu:Ab)(lo hi:Option Int)(sl:Aa)(Q:VK),Inv X vY σ H s->RelV x v->s.heap.IsSliceOf sl vl vu .none->IsPart vl lo->IsPart vu hi->r x lo hi H Q->
  ∃T id,typeLookup (.type T) "__getitem__"=pure (some<|.builtin id)/\s.TypeIs v T/\wpAny (model X.prog X.w) X.A (getItem v<|.ref sl) (EP X vY σ Q) X.xe s
def tSl(r:V->Option Int->Option Int->Hp->VK->Prop)(te:TE)(tl th:TO):TE:=fun σ H Q=>te σ H fun x H1=>tl σ H1 fun l H2=>th σ H2 fun u H3=>r x l u H3 Q
def z0b{r:V->Option Int->Option Int->Hp->VK->Prop}(hr:SlR X r)(he:PE X e te)(hl:PO X lo tl)(hu:PO X hi th):PE X (.Subscript e (.Slice lo hi none p2) pos) (tSl r te tl th):=by
 intro vY s σ H Q I h;refine Subscript_ (thn (he vY s σ H _ I h) fun v s1 zz=>?_);obtain⟨x,H1,I1,r1,q1⟩:=zz;refine wpAny_Slice (thn (hl vY s1 σ H1 _ I1 q1) fun vl s2 ⟨l,H2,I2,pl,q2⟩=>thn (hu vY s2 σ H2 _ I2 q2) fun vu s3 zz=>?_);obtain⟨u,H3,I3,pu,q3⟩:=zz;rw[evalPart_none];refine ve ?_;have I4:Inv X vY σ H3 {s3 with heap:=s3.heap.push {cls:=.type "slice",data:=.fields #[vl,vu,.none]} }:=I3.kept (t':=s3.toks) fun b ob q=>vb _ q
 obtain⟨T,id,hT,ht,hg⟩:=hr vY {s3 with heap:=s3.heap.push {cls:=.type "slice",data:=.fields #[vl,vu,.none]} } σ H3 x v vl vu l u s3.heap.objs.size Q I4 r1 (Heap.IsSliceOf.new ..) pl pu q3;show wpAny (model X.prog X.w) X.A (subscriptTail e (.Slice lo hi none p2) v<|.ref s3.heap.objs.size) (EP X vY σ Q) X.xe {s3 with heap:=s3.heap.push {cls:=.type "slice",data:=.fields #[vl,vu,.none]} };exact tail_any (ops:=[.ref s3.heap.objs.size,v]) ht hT hg (by with_unfolding_all rfl)
noncomputable def cutV(xs:List V)(lo hi:Option Int):List V:=(xs.drop<|HT.sIx xs.length 0 lo).take (HT.sIx xs.length xs.length hi - HT.sIx xs.length 0 lo)
def Jl(xs:List V)(lo hi:Option Int):(cutV xs lo hi).length<=xs.length:=by
 unfold cutV;rw[vq,List.length_drop];lia
def rSlT(K:ku):V->Option Int->Option Int->Hp->VK->Prop:=fun x lo hi H Q=>∃a xs,x=.ref a/\SqT K H a xs/\
 ¬(HT.sIx xs.length 0 lo=0/\HT.sIx xs.length xs.length hi=xs.length)/\∀p,H p=none->Q (.ref p) (upd H p<|.tup<|cutV xs lo hi)
def z9E:SlR X (rSlT X.K):=by
 intro vY s σ H x v vl vu lo hi sl Q I rx hs pl pu h;obtain⟨a,xs,rfl,hx,hw,q⟩:=h;cases rx;obtain⟨its,r,ht,hz⟩:=I.tuple hx;have hlen:its.toArray.size=xs.length:=by rw[kF];exact r.length.symm
 refine⟨"tuple",_,PyProof.Rows.slot_tuple_getitem.lookup,ht.typeIs,?_⟩;refine HT.getItem_tuple_cut ht hs pl pu (by rw[hlen];exact hw) ?_ (by rw[hlen];exact hz);rw[hlen];refine⟨.ref s.heap.objs.size,_,I.laid (t':=s.toks) (o:=.tup (cutV xs lo hi)) (fun b ob q=>vb _ q) (kg _) ?_,rfl,q _<|I.hok.fresh<|kg _⟩;exact⟨kr (Jl xs lo hi) hz,_,(r.drop<|HT.sIx xs.length 0 lo).take (HT.sIx xs.length xs.length hi - HT.sIx xs.length 0 lo),IsTup.new _ _⟩
inductive z9V(K:ku)(x:V)(y:V)(H:Hp)(Q:VK):Prop
|mk (a:_) (b:_) (xs:_) (ys:_):x=.ref a->y=.ref b->SqT K H a xs->SqT K H b ys->xs≠[]->xs.length+ys.length<=sizeLine->(ys=[]->Q (.ref a) H)->(ys≠[]->∀p,H p=none->Q (.ref p) (upd H p<|.tup (xs++ys)))->z9V K x y H Q
def Vals.nil_iff{xs:List V}{us:List Ab}(r:Vals xs us):us=[]↔xs=[]:=by
 cases r with
|nil=>simp
|cons _ _=>simp
def z4y:OpR X (binaryOp .Add) (z9V X.K):=by
 intro vY s σ H x y v u Q I rx ry h;obtain⟨a,b,xs,ys,rfl,rfl,ha,hb,hx,hz,q1,q2⟩:=h;cases rx;cases ry;obtain⟨its,r1,p1,_⟩:=I.tuple ha;obtain⟨its2,r2,p2,_⟩:=I.tuple hb;refine HT.cat_tup p1 p2 (fun z=>hx<|r1.nil_iff.mp z) (fun z=>⟨.ref a,H,I,rfl,q1<|r2.nil_iff.mp z⟩) (fun z=>?_) (by rw[<-r1.length,<-r2.length];exact hz);refine⟨.ref s.heap.objs.size,_,I.laid (t':=s.toks) (o:=.tup (xs++ys)) (fun b ob q=>vb _ q) (kg _) ?_,rfl,q2 (fun w=>z<|r2.nil_iff.mpr w) _<|I.hok.fresh<|kg _⟩;exact⟨by rw[km];exact hz,_,r1.append r2,IsTup.new _ _⟩
end
noncomputable def ixN(n:Nat)(i:Int):Option Nat:=if 0<=i then (if i < n then some i.toNat else none) else if -(n:Int)<=i then some (i+n).toNat else none
noncomputable def atI{α:Type}(xs:List α)(i:Int):Option α:=(ixN xs.length i).bind fun j=>xs[j]?
def z4U{n:Nat}{i:Int}{j:Nat}(h:ixN n i=some j):seqIndex? i n=some j/\j < n/\-(n:Int)<=i/\i < n:=by
 unfold ixN at h;by_cases h0:0<=i
 ·rw[kz h0] at h;by_cases h1:i < n
  ·rw[kz h1] at h;have e:i.toNat=j:=kC h;exact⟨by rw[seqIndex_of h0 h1,e],by lia,by lia,h1⟩
  ·rw[ky h1] at h;cases h
 ·rw[ky h0] at h;by_cases h1: -(n:Int)<=i
  ·rw[kz h1] at h;have e:(i+n).toNat=j:=kC h;exact⟨by rw[seqIndex_neg (by lia) h1,e],by lia,h1,by lia⟩
  ·rw[ky h1] at h;cases h
def z2e{α:Type}{xs:List α}{i:Int}{v:α}(h:atI xs i=some v):∃j,seqIndex? i xs.length=some j/\xs[j]?=some v/\j < xs.length/\-(xs.length:Int)<=i/\i < xs.length:=by
 unfold atI at h;cases e:ixN xs.length i with
|none=>rw[e] at h;cases h
|some j=>
  rw[e] at h;obtain⟨h1,h2,h3,h4⟩:=z4U e;exact⟨j,h1,h,h2,h3,h4⟩
def zm{α:Type}{xs:List α}{j:Nat}{v:α}(h:xs[j]?=some v):atI xs (j:Int)=some v:=by
 have hj:j < xs.length:=(kh.mp h).1;have e:ixN xs.length (j:Int)=some j:=by
  unfold ixN;rw[kz (by lia),kz<|by lia];simp
 unfold atI;rw[e];exact h
def QQ{α:Type}(xs:List α)(v:α):atI (xs++[v]) (-1)=some v:=by
 have hl:(xs++[v]).length=xs.length+1:=by simp
 have e:ixN (xs++[v]).length (-1)=some xs.length:=by
  unfold ixN;rw[hl,ky (by decide),kz<|by lia];congr 1
  lia
 unfold atI;rw[e];show (xs++[v])[xs.length]?=some v;simp
def z5K(b:Expr):Prop:=∀o i,subscripted b false o i=operate [o,i] (getItem o i)
def IxR(X:Cx)(r:R2):Prop:=
 ∀(value slice:Expr)(vY:List (Aa × Obj))(s:Ac)(σ:St)(H:Hp)(x y:V)(v u:Ab)(Q:VK),Inv X vY σ H s->RelV x v->RelV y u->r x y H Q->
  subscripted slice false v u=operate [v,u] (getItem v u)->wpAny (model X.prog X.w) X.A (subscriptTail value slice v u) (EP X vY σ Q) X.xe s
def MtR(X:Cx)(id:String)(r:V->List V->Hp->VK->Prop):Prop:=
 ∀(vY:List (Aa × Obj))(s:Ac)(σ:St)(H:Hp)(x:V)(xs:List V)(v:Ab)(us:List Ab)(Q:VK),Inv X vY σ H s->RelV x v->Vals xs us->r x xs H Q->
  wpAny (model X.prog X.w) X.A (call (.builtin id) (v::us)) (EP X vY σ Q) X.xe s
section
variable {X:Cx}{a b:Expr}{ta tb:TE}{pos:Pos}
def zbt{r:R2}(hr:IxR X r)(ha:PE X a ta)(hb:PE X b tb)(hs:z5K b):PE X (.Subscript a b pos) (tOp r ta tb):=by
 intro vY s σ H Q I h;exact Subscript_ (binT ha hb I h fun v u s2 x y H2 I2 rx ry q=>hr a b vY s2 σ H2 x y v u Q I2 rx ry q<|hs _ _)
inductive rIxL(K:ku)(x:V)(y:V)(H:Hp)(Q:VK):Prop
|mk (p:_) (xs:_) (i:_) (v:_):x=.ref p->y=.int i->SqL K H p xs->atI xs i=some v->Q v H->rIxL K x y H Q
inductive rIxT(K:ku)(x:V)(y:V)(H:Hp)(Q:VK):Prop
|mk (p:_) (xs:_) (i:_) (v:_):x=.ref p->y=.int i->SqT K H p xs->atI xs i=some v->Q v H->rIxT K x y H Q
inductive rIxS(x:V)(y:V)(H:Hp)(Q:VK):Prop
|mk (z:_) (i:_) (c:_):x=.str z->y=.int i->z.length<=sizeLine->atI z.cps.toList i=some c->Q (.str ⟨#[c]⟩) H->rIxS x y H Q
def zH:IxR X (rIxL X.K):=by
 intro value slice vY s σ H x y v u Q I rx ry h hs;obtain⟨p,xs,i,z,rfl,rfl,hq,he,q⟩:=h;cases rx;obtain⟨t,rfl⟩:=ry;obtain⟨its,r,pl,hz⟩:=I.list hq;obtain⟨j,h1,h2,h3,h4,h5⟩:=z2e he;obtain⟨w,ew,rw'⟩:=r.get h2;have hl:=r.length;have hn:=Jc;have fin:EP X vY σ Q w s:=⟨z,H,I,rw',q⟩
 by_cases h0:0<=i
 ·have hj:i.toNat=j:=by
   rw[seqIndex_of h0 h5] at h1;exact kC h1
  exact item_listR pl.isList h0 (by lia) (by rw[hj];simpa using ew) fin hs
 ·have hj:(i+(its.toArray.size:Int)).toNat=j:=by
   rw[seqIndex_neg (by lia) h4] at h1;rw[kF,<-hl];exact kC h1
  exact subscriptTail_builtinR (x:=w) pl.isList.typeIs slot_list_getitem.lookup
   (wpAny_getItem_list_neg (Q:=fun r s'=>r=w/\EP X vY σ Q r s') pl.isList (by lia) (by rw[kF] <;> lia) (by lia) (by rw[hj];simpa using ew) ⟨rfl,fin⟩) hs
def qg:IxR X (rIxT X.K):=by
 intro value slice vY s σ H x y v u Q I rx ry h hs;obtain⟨p,xs,i,z,rfl,rfl,hq,he,q⟩:=h;cases rx;obtain⟨t,rfl⟩:=ry;obtain⟨its,r,pl,hz⟩:=I.tuple hq;obtain⟨j,h1,h2,h3,h4,h5⟩:=z2e he;obtain⟨w,ew,rw'⟩:=r.get h2;have hl:=r.length;have hn:=Jc;have fin:EP X vY σ Q w s:=⟨z,H,I,rw',q⟩
 exact subscriptTail_builtinR (x:=w) pl.typeIs slot_tuple_getitem.lookup
  (getItem_tuple (j:=j) (Q:=fun r s'=>r=w/\EP X vY σ Q r s') pl (by lia) (by lia) (by rw[kF,<-hl];exact h1) (by simpa using ew) ⟨rfl,fin⟩) hs
def zax:IxR X rIxS:=by
 intro value slice vY s σ H x y v u Q I rx ry h hs;obtain⟨z,i,c,rfl,rfl,hz,he,q⟩:=h;obtain⟨t,rfl⟩:=rx;obtain⟨t',rfl⟩:=ry;obtain⟨j,h1,h2,h3,h4,h5⟩:=z2e he;have hl:z.cps.toList.length=z.length:=by simp[Str.length]
 rw[hl] at h1 h4 h5;have hn:=Jc;exact tail_any (typeIs_str s z t) slot_str_getitem.lookup (getItem_str (c:=c) (by
  have e1:decide (i < -(2 ^ 63:Int))=false:=ki (by lia);have e2:decide (i≥2 ^ 63)=false:=ki (by lia);rw[e1,e2,Bool.or_false]) (by rw[h1];simpa using h2) ⟨.str ⟨#[c]⟩,H,I.tok _,⟨_,rfl⟩,q⟩) hs
def z3r(its:List Ab)(n j:Nat)(u:Ab):Obj.mapSeq (·.setIfInBounds j u) {cls:=.type "list",data:=.seq its.toArray n}={cls:=.type "list",data:=.seq (its.set j u).toArray n}:=by
 simp[Obj.mapSeq]
def Inv.lst{vY:List (Aa × Obj)}{σ:St}{H:Hp}{s:Ac}{p:Aa}{xs:List V}(I:Inv X vY σ H s)(h:H p=some (.lst xs)):
  ∃(its:List Ab)(n:Nat),Vals xs its/\s.heap.get? p=some {cls:=.type "list",data:=.seq its.toArray n}/\xs.length<=sizeLine:=by
 obtain⟨z,its,n,r,e⟩:=I.hok p _ h;exact⟨its,n,r,e,z⟩
def Inv.lstUpd{vY:List (Aa × Obj)}{σ:St}{H:Hp}{s:Ac}{p:Aa}{xs ys:List V}{its its':List Ab}{n n':Nat}{f:Obj->Obj}(I:Inv X vY σ H s)(h:H p=some (.lst xs))(ho:s.heap.get? p=some {cls:=.type "list",data:=.seq its.toArray n})(hf:f {cls:=.type "list",data:=.seq its.toArray n}={cls:=.type "list",data:=.seq its'.toArray n'})(r:Vals ys its')(hz:ys.length<=sizeLine)(t:Nat):
  Inv X vY σ (upd H p<|.lst ys) {s with heap:=s.heap.update p f,toks:=t}:=by
 have e:(s.heap.update p f).get? p=some {cls:=.type "list",data:=.seq its'.toArray n'}:=by
  rw[Heap.get?_update_self f ho (by rw[hf] <;> rfl),hf]
 refine I.write (x:=p) (e:=p) (by rw[h];trivial) (.inl rfl) (fun b u hb q=>(Heap.get?_update_other _ _<|Ne.symm hb).trans q) ⟨_,e⟩ ?_;exact⟨hz,its',n',r,e⟩
inductive z9Q(o:V)(i:V)(v:V)(H:Hp)(Q:Hp->Prop):Prop
|mk (p:_) (xs:_) (k:_) (j:_):o=.ref p->i=.int k->H p=some (.lst xs)->ixN xs.length k=some j->Q (upd H p<|.lst<|xs.set j v)->z9Q o i v H Q
def ZO:PSet X z9Q:=by
 intro vY s σ H o i v ov iv u Q I ro ri rv h;obtain⟨p,xs,k,j,rfl,rfl,hp,hj,q⟩:=h;cases ro;obtain⟨t,rfl⟩:=ri;obtain⟨its,n,r,ho,hz⟩:=I.lst hp;obtain⟨h1,h2,h3,h4⟩:=z4U hj;have hl:=r.length;have hn:=Jc;have I':Inv X vY σ (upd H p<|.lst<|xs.set j v) {s with heap:=s.heap.update p (Obj.mapSeq (·.setIfInBounds j u))}:=
  I.lstUpd hp ho (z3r its n j u) (r.set rv j) (by rw[vH];exact hz) s.toks
 by_cases h0:0<=k
 ·have hk:k.toNat=j:=by
   rw[seqIndex_of h0 h4] at h1;exact kC h1
  exact PySem.W.ki_setAt ho h0 (by lia) (by rw[kF,<-hl];exact h4) (by rw[hk];exact⟨_,I',q⟩)
 ·have hk:(k+(its.toArray.size:Int)).toNat=j:=by
   rw[seqIndex_neg (by lia) h3] at h1;rw[kF,<-hl];exact kC h1
  exact PySem.W.ki_setBack ho (by lia) (by rw[kF,<-hl];exact h3) (by lia) (by rw[hk];exact⟨_,I',q⟩)
def z0O(lo hi:Option Int)(n:Nat):(sliceBounds lo hi none n).1=((HT.sIx n 0 lo:Nat):Int)/\(sliceBounds lo hi none n).2.1=((HT.sIx n n hi:Nat):Int)/\(sliceBounds lo hi none n).2.2=1:=by
 refine⟨?_,?_,rfl⟩
 ·cases lo with
 |none=>simp[sliceBounds,HT.sIx]
 |some i=>
   simp only[sliceBounds,HT.sIx,Option.getD_none,show (1:Int) > 0 by decide,if_true];by_cases h:i < 0
   ·simp only[h,if_true] <;> lia
   ·simp only[h,if_false] <;> lia
 ·cases hi with
 |none=>simp[sliceBounds,HT.sIx]
 |some i=>
   simp only[sliceBounds,HT.sIx,Option.getD_none,show (1:Int) > 0 by decide,if_true];by_cases h:i < 0
   ·simp only[h,if_true] <;> lia
   ·simp only[h,if_false] <;> lia
def z02(its:List Ab)(lo hi:Option Int):slicePick its.toArray lo hi none=((its.drop<|HT.sIx its.length 0 lo).take (HT.sIx its.length its.length hi - HT.sIx its.length 0 lo)).toArray:=by
 obtain⟨h1,h2,h3⟩:=z0O lo hi its.toArray.size;unfold slicePick;rw[h1,h2,h3];simp only[sliceRange_one,pick_run,kF] <;> rfl
def rSlL(K:ku):V->Option Int->Option Int->Hp->VK->Prop:=fun x lo hi H Q=>∃a xs,x=.ref a/\SqL K H a xs/\∀p,H p=none->Q (.ref p) (upd H p<|.lst<|cutV xs lo hi)
def z4c:SlR X (rSlL X.K):=by
 intro vY s σ H x v vl vu lo hi sl Q I rx hs pl pu h;obtain⟨a,xs,rfl,hx,q⟩:=h;cases rx;obtain⟨its,r,ht,hz⟩:=I.list hx;have hlen:=r.length;refine⟨"list",_,slot_list_getitem.lookup,ht.isList.typeIs,?_⟩;refine wpAny_getItem_list_slice ht.isList hs pl pu .none (by simp) ?_ (by rw[kF] <;> lia);rw[z02,<-hlen];refine⟨.ref s.heap.objs.size,_,I.laid (t':=s.toks) (o:=.lst (cutV xs lo hi)) (fun b ob q=>vb _ q) (kg _) ?_,rfl,q _<|I.hok.fresh<|kg _⟩;exact⟨kr (Jl xs lo hi) hz,_,0,(r.drop<|HT.sIx xs.length 0 lo).take (HT.sIx xs.length xs.length hi - HT.sIx xs.length 0 lo),vg _ rfl⟩
noncomputable def QF:V->Bool
|.non=>true
|.bl _=>true
|.int _=>true
|.str _=>true
|_=>false
noncomputable def eqV:V->V->Bool
|.non,.non=>true
|.bl a,.bl b=>a == b
|.bl a,.int b=>(if a then 1 else 0) == b
|.int a,.bl b=>a == (if b then 1 else 0)
|.int a,.int b=>a == b
|.str a,.str b=>a == b
|_,_=>false
def z5j{A:Around}{s:Ac}{y x:V}{u v:Ab}(ry:RelV y u)(rx:RelV x v)(fy:QF y=true)(fx:QF x=true):SeqAt.EqAt A s u v (eqV y x):=by
 cases y with
|non=>
  cases ry;cases x with
 |non=>cases rx;exact SeqAt.EqAt.same _
 |bl b=>cases rx;exact SeqAt.EqAt.none_bool b
 |int b=>obtain⟨t,rfl⟩:=rx;exact SeqAt.EqAt.none_int b t
 |str b=>obtain⟨t,rfl⟩:=rx;exact SeqAt.EqAt.none_str b t
 |_=>exact vd (show false=true from fx) ke
|bl a=>
  cases ry;cases x with
 |non=>cases rx;exact SeqAt.EqAt.bool_none a
 |bl b=>cases rx;exact SeqAt.EqAt.bool_bool a b
 |int b=>obtain⟨t,rfl⟩:=rx;exact SeqAt.EqAt.bool_int a b t
 |str b=>obtain⟨t,rfl⟩:=rx;exact SeqAt.EqAt.bool_str a b t
 |_=>exact vd (show false=true from fx) ke
|int a=>
  obtain⟨t',rfl⟩:=ry;cases x with
 |non=>cases rx;exact SeqAt.EqAt.int_none a t'
 |bl b=>cases rx;exact SeqAt.EqAt.int_bool a t' b
 |int b=>obtain⟨t,rfl⟩:=rx;exact SeqAt.EqAt.int_int a t' b t
 |str b=>obtain⟨t,rfl⟩:=rx;exact SeqAt.EqAt.int_str a t' b t
 |_=>exact vd (show false=true from fx) ke
|str a=>
  obtain⟨t',rfl⟩:=ry;cases x with
 |non=>cases rx;exact SeqAt.EqAt.str_none a t'
 |bl b=>cases rx;exact SeqAt.EqAt.str_bool a t' b
 |int b=>obtain⟨t,rfl⟩:=rx;exact SeqAt.EqAt.str_int a t' b t
 |str b=>obtain⟨t,rfl⟩:=rx;exact SeqAt.EqAt.str_str a t' b t
 |_=>exact vd (show false=true from fx) ke
|_=>exact vd (show false=true from fy) ke
noncomputable def eqU(x:V)(u:Ab):Bool:=match u with
|.none=>eqV .non x
|.bool b=>eqV (.bl b) x
|.int i _=>eqV (.int i) x
|.str z _=>eqV (.str z) x
|_=>false
def z7E{x y:V}{u:Ab}(r:RelV y u)(f:QF y=true):eqU x u=eqV y x:=by
 cases y with
|non=>cases r;rfl
|bl b=>cases r;rfl
|int i=>obtain⟨t,rfl⟩:=r;rfl
|str z=>obtain⟨t,rfl⟩:=r;rfl
|_=>exact vd (show false=true from f) ke
def Jq{x:V}:∀{xs:List V}{us:List Ab},Vals xs us->xs.all QF=true->us.any (eqU x)=xs.any fun y=>eqV y x
|_,_,.nil,_=>rfl
|y::xs,u::us,.cons r t,f=>by
  rw[List.all_cons,yd] at f;rw[List.any_cons,List.any_cons,z7E r f.1,Jq t f.2]
def ZW{A:Around}{s:Ac}{x:V}{v:Ab}(rx:RelV x v)(fx:QF x=true):∀{xs:List V}{us:List Ab},Vals xs us->xs.all QF=true->∀u∈us,SeqAt.EqAt A s u v (eqU x u)
|_,_,.nil,_=>fun u hu=>by cases hu
|y::xs,u::us,.cons r t,f=>fun u' hu=>by
  rw[List.all_cons,yd] at f;rcases kE.mp hu with rfl|hu
  ·rw[z7E r f.1];exact z5j r rx f.1 fx
  ·exact ZW rx fx t f.2 u' hu
noncomputable def inV(x:V)(xs:List V):Bool:=xs.any fun y=>eqV y x
inductive rIn(K:ku)(neg:Bool)(x:V)(y:V)(H:Hp)(Q:VK):Prop
|mk (p:_) (xs:_):y=.ref p->(SqL K H p xs\/SqT K H p xs)->QF x=true->xs.all QF=true->Q (.bl (if neg then !inV x xs else inV x xs)) H->rIn K neg x y H Q
def jb:OpR X (compareOp .In) (rIn X.K false):=by
 intro vY s σ H x y v u Q I rx ry h;obtain⟨p,xs,rfl,hq,fx,fs,q⟩:=h;cases ry;rcases hq with hq|hq
 ·obtain⟨its,r,pl,hz⟩:=I.list hq;refine SeqAt.in_listAt (eqU x) pl.isList (fun w hw=>ZW rx fx r fs w<|by simpa using hw) ⟨.bl _,H,I,rfl,?_⟩;rw[show its.toArray.any (eqU x)=its.any (eqU x) by simp,Jq r fs];exact q
 ·obtain⟨its,r,pl,hz⟩:=I.tuple hq;refine SeqAt.in_tupleAt (eqU x) pl (fun w hw=>ZW rx fx r fs w<|by simpa using hw) ⟨.bl _,H,I,rfl,?_⟩;rw[show its.toArray.any (eqU x)=its.any (eqU x) by simp,Jq r fs];exact q
def Qw:OpR X (compareOp .NotIn) (rIn X.K true):=by
 intro vY s σ H x y v u Q I rx ry h;obtain⟨p,xs,rfl,hq,fx,fs,q⟩:=h;cases ry;rcases hq with hq|hq
 ·obtain⟨its,r,pl,hz⟩:=I.list hq;refine SeqAt.notIn_listAt (eqU x) pl.isList (fun w hw=>ZW rx fx r fs w<|by simpa using hw) ⟨.bl _,H,I,rfl,?_⟩;rw[show its.toArray.any (eqU x)=its.any (eqU x) by simp,Jq r fs];exact q
 ·obtain⟨its,r,pl,hz⟩:=I.tuple hq;refine SeqAt.notIn_tupleAt (eqU x) pl (fun w hw=>ZW rx fx r fs w<|by simpa using hw) ⟨.bl _,H,I,rfl,?_⟩;rw[show its.toArray.any (eqU x)=its.any (eqU x) by simp,Jq r fs];exact q
def zr:Zs X (.builtin "len") (fun xs H Q=>∃p ys,xs=[.ref p]/\(SqL X.K H p ys\/SqT X.K H p ys)/\Q (.int ys.length) H):=by
 intro vY s σ H xs us Q I r h;obtain⟨p,ys,rfl,hq,q⟩:=h;obtain⟨u,rfl,rx⟩:=Js r;cases rx;have hn:=Jc;rcases hq with hq|hq
 ·obtain⟨its,r',pl,hz⟩:=I.list hq;have hlen:=r'.length;exact Calls.call_len_list pl.isList (by simp only[kF] <;> lia) ⟨.int ys.length,H,I.tok _,⟨s.toks+1,by rw[kF,hlen]⟩,q⟩
 ·obtain⟨its,r',pl,hz⟩:=I.tuple hq;have hlen:=r'.length;exact len_tuple pl (by simp only[kF] <;> lia) ⟨.int ys.length,H,I.tok _,⟨s.toks+1,by rw[kF,hlen]⟩,q⟩
def z1s:Zs X (.builtin "len") (fun xs H Q=>∃z,xs=[.str z]/\z.length<=sizeLine/\Q (.int z.length) H):=by
 intro vY s σ H xs us Q I r h;obtain⟨z,rfl,hz,q⟩:=h;obtain⟨u,rfl,t,rfl⟩:=Js r;have hn:=Jc;exact len_str (by lia) ⟨.int z.length,H,I.tok _,⟨_,rfl⟩,q⟩
def Qz:Zs X (.type "list") (fun xs H Q=>∃p ys,xs=[.ref p]/\(SqL X.K H p ys\/SqT X.K H p ys)/\∀l,H l=none->Q (.ref l) (upd H l<|.lst ys)):=by
 intro vY s σ H xs us Q I r h;obtain⟨p,ys,rfl,hq,q⟩:=h;obtain⟨u,rfl,rx⟩:=Js r;cases rx;have fin:∀(its:List Ab),Vals ys its->ys.length<=sizeLine->∀(h':Heap)(c':Nat),(∀b o',s.heap.get? b=some o'->h'.get? b=some o')->
   h'.get? s.heap.objs.size=some {cls:=.type "list",dict:=none,data:=.seq its.toArray c',slots:=#[]}->EP X vY σ Q (.ref s.heap.objs.size) {s with heap:=h'}:=fun its r' hz h' c' kp e=>
  ⟨.ref s.heap.objs.size,_,I.laid (t':=s.toks) kp (kg _) (show qq X.prog X.w _ h' _ (.lst ys) from ⟨hz,its,c',r',e⟩),rfl,q _<|I.hok.fresh<|kg _⟩
 rcases hq with hq|hq
 ·obtain⟨its,r',pl,hz⟩:=I.list hq;have hlen:=r'.length;obtain⟨o,ho,hc,n,hd⟩:=pl.isList;exact call_list_seq p (.inl rfl) ho hc hd (fun h' c' kp e=>fin its r' hz h' c' kp e) (by simp only[kF] <;> lia)
 ·obtain⟨its,r',pl,hz⟩:=I.tuple hq;have hlen:=r'.length;obtain⟨o,ho,hc,n,hd⟩:=pl;exact call_list_seq p (.inr rfl) ho hc hd (fun h' c' kp e=>fin its r' hz h' c' kp e) (by simp only[kF] <;> lia)
def jd:Zs X (.type "tuple") (fun xs H Q=>∃p ys,xs=[.ref p]/\((SqL X.K H p ys/\∀l,H l=none->Q (.ref l) (upd H l<|.tup ys))\/(SqT X.K H p ys/\Q (.ref p) H))):=by
 intro vY s σ H xs us Q I r h;obtain⟨p,ys,rfl,h⟩:=h;obtain⟨u,rfl,rx⟩:=Js r;cases rx;rcases h with ⟨hq,q⟩|⟨hq,q⟩
 ·obtain⟨its,r',pl,hz⟩:=I.list hq;have hlen:=r'.length;refine call_tuple_list pl.isList (fun h' kp=>?_) (by simp only[kF] <;> lia);have I1:Inv X vY σ H {s with heap:=h'}:=I.kept (t':=s.toks) kp;have I2:Inv X vY σ (upd H h'.objs.size<|.tup ys) {s with heap:=h'.push {cls:=.type "tuple",data:=.seq its.toArray} }:=
   I1.laid (t':=s.toks) (fun b o e=>vb _ e) (kg _) (show qq X.prog X.w _ _ _ (.tup ys) from ⟨hz,its,r',IsTup.new _ _⟩)
  exact⟨.ref h'.objs.size,_,I2,rfl,q _<|I1.hok.fresh<|kg _⟩
 ·obtain⟨its,r',pl,hz⟩:=I.tuple hq;exact call_tuple_same pl ⟨.ref p,H,I,rfl,q⟩
def tyV(K:ku)(T:String)(x:V)(H:Hp):Prop:=match x with
|.str _=>T="str"
|.int _=>T="int"
|.ref p=>(T="list"/\∃xs,SqL K H p xs)\/(T="tuple"/\∃o,K.lookup p=some o/\o.cls=.type "tuple"/\o.dict=none)\/
   (T="dict"/\((∃kvs,H p=some (.dK kvs))\/∃kvs,H p=some (.dT kvs)))\/(T="set"/\∃S n,H p=some (.set S n))
|_=>False
def z7l{vY:List (Aa × Obj)}{σ:St}{H:Hp}{s:Ac}{T:String}{x:V}{v:Ab}(I:Inv X vY σ H s)(r:RelV x v)(ty:tyV X.K T x H):
  s.TypeIs v T/\∀a,v=.ref a->∃ob,s.heap.get? a=some ob/\ob.dict=none:=by
 cases x with
|str z=>
  obtain⟨t,rfl⟩:=r;cases (show T="str" from ty);exact⟨typeIs_str s z t,fun _ e=>nomatch e⟩
|int i=>
  obtain⟨t,rfl⟩:=r;cases (show T="int" from ty);exact⟨typeIs_int s i t,fun _ e=>nomatch e⟩
|ref p=>
  cases r;rcases ty with ⟨rfl,xs,hq⟩|⟨rfl,o,hk,hc,hd⟩|⟨rfl,hk⟩|⟨rfl,S,n,hk⟩
  ·obtain⟨its,_,pl,_⟩:=I.list hq;refine⟨pl.isList.typeIs,fun a e=>?_⟩;cases e;obtain⟨o,n,e,c,hd,_⟩:=pl;exact⟨o,e,hd⟩
  ·refine⟨⟨o,I.kIn p o hk,hc⟩,fun a e=>?_⟩;cases e;exact⟨o,I.kIn _ o hk,hd⟩
  ·have z:∃o,s.heap.get? p=some o/\o.ExactDict:=by
    rcases hk with ⟨kvs,hk⟩|⟨kvs,hk⟩
    ·obtain⟨_,_,_,_,o,_,_,e,ex,_⟩:=I.hok p _ hk;exact⟨o,e,ex⟩
    ·obtain⟨_,_,_,_,o,_,_,e,ex,_⟩:=I.hok p _ hk;exact⟨o,e,ex⟩
   obtain⟨o,e,ex⟩:=z;refine⟨⟨o,e,ex.1⟩,fun a e2=>?_⟩;cases e2;exact⟨o,e,ex.2.1⟩
  ·obtain⟨o,_,_,_,e,ex,_⟩:=I.hok p _ hk;refine⟨⟨o,e,ex.1⟩,fun a e2=>?_⟩;cases e2;exact⟨o,e,ex.2.1⟩
|_=>exact False.elim ty
def tBM0(K:ku)(T:String)(r:V->List V->Hp->VK->Prop)(to:TE):TE:=fun σ H Q=>to σ H fun x H1=>tyV K T x H1/\r x [] H1 Q
def tBM(K:ku)(T:String)(r:V->List V->Hp->VK->Prop)(to:TE)(t:TA):TE:=fun σ H Q=>to σ H fun x H1=>tyV K T x H1/\t σ H1 fun xs H2=>r x xs H2 Q
variable {o e:Expr}{es:List Expr}{to:TE}{t:TA}{name:Str}{apos cpos:Pos}{T id:String}{r:V->List V->Hp->VK->Prop}
def z4u(pa:PlainAttrs T)(slot:Slot T name id)(hty:typeOf (.builtin id)=pure (.type "method_descriptor"))(hm:MtR X id r)(ho:PE X o to)(hbase:autoParam (attributeBase o name X.env (eval o X.env)=eval o X.env) aR._auto_1)(hline:autoParam ((apos.endLine == cpos.line)=true) aR._auto_1):PE X (.Call (.Attribute o name apos) [] [] cpos) (tBM0 X.K T r to):=by
 intro vY s σ H Q I h;refine wpAny_Call_method0_late hbase hline (thn (ho vY s σ H _ I h) fun v s1 zz=>?_);obtain⟨x,H1,I1,r1,ty,q1⟩:=zz;obtain⟨h1,h2⟩:=z7l I1 r1 ty;exact⟨T,id,pa,slot,hty,h1,h2,vF rfl<|PySem.evalArgs_none<|hm vY s1 σ H1 x [] v [] Q I1 r1 .nil q1⟩
def z1W(pa:PlainAttrs T)(slot:Slot T name id)(hty:typeOf (.builtin id)=pure (.type "method_descriptor"))(hm:MtR X id r)(ho:PE X o to)(ha:PA X (e::es) t)(hbase:autoParam (attributeBase o name X.env (eval o X.env)=eval o X.env) aR._auto_1)(hfew:autoParam (((backTo cpos<|starEach (e::es) X.env).all (fun x=> !x.1)&&(backToKw cpos<|keywordEach [] X.env).all (fun x=>x.1.isSome)
   &&decide ((e::es).length+([]:List Keyword).length+(if ([]:List Keyword).isEmpty then 0 else 1) < 30))=true) aR._auto_1)(hline:autoParam ((apos.endLine == cpos.line)=true) aR._auto_1)(hs:autoParam (starEach (e::es) X.env=(false,eval e X.env)::starEach es X.env) aR._auto_1)(hplain:autoParam ((backTo cpos<|starEach es X.env).any (·.1)=false) aR._auto_1):
  PE X (.Call (.Attribute o name apos) (e::es) [] cpos) (tBM X.K T r to t):=by
 intro vY s σ H Q I h;refine wpAny_Call_method_late hbase hfew hline rfl (thn (ho vY s σ H _ I h) fun v s1 zz=>?_);obtain⟨x,H1,I1,r1,ty,q1⟩:=zz;obtain⟨h1,h2⟩:=z7l I1 r1 ty;refine⟨T,id,pa,slot,hty,h1,h2,?_⟩;have hA:=ha cpos vY s1 σ H1 _ I1 q1;rw[hs] at hA ⊢
 refine vF (by show (false||(backTo cpos<|starEach es X.env).any (·.1))=false;rw[hplain] <;> rfl) (Calls.evalArgs_plain ?_);exact thn hA fun us s2 ⟨vs,H2,I2,r2,q2⟩=>hm vY s2 σ H2 x vs v us Q I2 r1 r2 q2
end
def MtM(X:Cx)(id:String)(r:V->List V->Hp->VK->Prop):Prop:=
 ∀(vY:List (Aa × Obj))(s:Ac)(σ:St)(H:Hp)(x:V)(xs:List V)(v:Ab)(us:List Ab)(Q:VK),Inv X vY σ H s->RelV x v->Vals xs us->r x xs H Q->
  wpAny (model X.prog X.w) X.A (call (.builtin id) (v::us)) (EP X vY σ Q) X.xe s
def Vals.one:∀{x:V}{us:List Ab},Vals [x] us->∃u,us=[u]/\RelV x u
|_,_,.cons r .nil=>⟨_,rfl,r⟩
def Vals.two:∀{x y:V}{us:List Ab},Vals [x,y] us->∃u v,us=[u,v]/\RelV x u/\RelV y v
|_,_,_,.cons r (.cons q .nil)=>⟨_,_,rfl,r,q⟩
def Vals.eraseIdx:∀{xs:List V}{us:List Ab}(i:Nat),Vals xs us->Vals (xs.eraseIdx i) (us.eraseIdx i)
|_,_,_,.nil=>.nil
|_,_,0,.cons _ t=>t
|_,_,i+1,.cons r t=>.cons r (Vals.eraseIdx i t)
def Vals.rep{xs:List V}{us:List Ab}(h:Vals xs us):∀k:Nat,Vals (List.replicate k xs).flatten (List.replicate k us).flatten
|0=>.nil
|k+1=>by
  rw[vG,vG,vV,vV];exact Vals.append h (Vals.rep h k)
def z14{α:Type}:∀(l:List α)(i:Nat),(l.eraseIdx i).length<=l.length
|[],_=>kg _
|_::_,0=>Nat.le_succ _
|_::r,i+1=>Nat.succ_le_succ (z14 r i)
def z1g(its:List Ab):∀(k:Nat)(acc:List Ab),
  List.foldl (fun x1 x2=>x1++x2) acc.toArray (List.replicate k its.toArray)=(acc++(List.replicate k its).flatten).toArray
|0,acc=>by simp
|k+1,acc=>by
  have e:acc.toArray++its.toArray=(acc++its).toArray:=by simp
  have e2:(acc++its)++(List.replicate k its).flatten=acc++(List.replicate (k+1) its).flatten:=by
   rw[vG,vV,kX]
  rw[<-e2,<-z1g its k (acc++its),<-e,vG,List.foldl_cons]
section
variable {X:Cx}{vY:List (Aa × Obj)}{σ:St}{H:Hp}{s:Ac}{l b:Aa}{xs ys zs:List V}
def Inv.lset{its its':List Ab}{n:Nat}{f:Array Ab->Array Ab}{t':Nat}(I:Inv X vY σ H s)(hH:H l=some (.lst xs))(e:s.heap.get? l=some {cls:=.type "list",data:=.seq its.toArray n})(hf:f its.toArray=its'.toArray)(hv:Vals ys its')(hz:ys.length<=sizeLine):
  Inv X vY σ (upd H l<|.lst ys) {s with heap:=s.heap.update l (Obj.mapSeq f),toks:=t'}:=by
 have q:=PySem.IsL.update e f;rw[hf] at q;refine I.write (x:=l) (e:=l) (by rw[hH];exact trivial) (.inl rfl) (fun b' u hb hu=>(Heap.get?_update_other s.heap (Obj.mapSeq f)<|Ne.symm hb).trans hu) ⟨_,q⟩ ?_;exact⟨hz,its',_,hv,q⟩
def Inv.lnew{its:List Ab}{t':Nat}(I:Inv X vY σ H s)(hv:Vals ys its)(hz:ys.length<=sizeLine):
  Inv X vY σ (upd H s.heap.objs.size<|.lst ys) {s with heap:=s.heap.push {cls:=.type "list",data:=.seq its.toArray},toks:=t'}:=
 I.laid (fun _ _ q=>vb _ q) (kg _) ⟨hz,its,0,hv,vg _ rfl⟩
def Inv.fresh(I:Inv X vY σ H s):H s.heap.objs.size=none:=I.hok.fresh (kg _)
def Inv.lstM(I:Inv X vY σ H s)(hH:H l=some (.lst xs)):xs.length<=sizeLine/\∃(its:List Ab)(n:Nat),Vals xs its/\xs.length=its.length/\s.heap.get? l=some {cls:=.type "list",data:=.seq its.toArray n}:=by
 obtain⟨z,its,n,r,e⟩:=I.hok l _ hH;exact⟨z,its,n,r,r.length,e⟩
def z6q{n:Nat}(h:n<=sizeLine):Builtin.List.listTooLong n=false:=by
 unfold Builtin.List.listTooLong;exact ki (by lia)
end
section
variable {X:Cx}
inductive z05(x:V)(vs:List V)(H:Hp)(Q:VK):Prop
|mk (l:_) (xs:_) (y:_):x=.ref l->vs=[y]->H l=some (.lst xs)->xs.length < sizeLine->Q .non (upd H l<|.lst (xs++[y]))->z05 x vs H Q
def z4L:MtM X "list.append" z05:=by
 intro vY s σ H x vs v us Q I rx rv h;obtain⟨l,xs,y,rfl,rfl,hH,hz,q⟩:=h;cases rx;obtain⟨u,rfl,ru⟩:=rv.one;obtain⟨z,its,n,r,hl,e⟩:=I.lstM hH;refine call_meets F.slot_list_append ⟨_,e,rfl⟩ F.entry_list_append (F.args_list_append_2 _ _) (PySem.list_append l its.toArray n u<|by rw[kF];lia) ⟨e,?_⟩;refine⟨.non,_,I.lset (its':=its++[u]) hH e (by simp) (r.append<|.cons ru .nil) ?_,rfl,q⟩;rw[km,kG];lia
inductive z7u(x:V)(vs:List V)(H:Hp)(Q:VK):Prop
|mk (l:_) (xs:_) (i:_) (k:_) (y:_):x=.ref l->vs=[.int i]->H l=some (.lst xs)->-(2 ^ 63)<=i->i < 2 ^ 63->seqIndex? i xs.length=some k->xs[k]?=some y->Q y (upd H l<|.lst<|xs.eraseIdx k)->z7u x vs H Q
def z6r:MtM X "list.pop" z7u:=by
 intro vY s σ H x vs v us Q I rx rv h;obtain⟨l,xs,i,k,y,rfl,rfl,hH,h1,h2,hk,hy,q⟩:=h;cases rx;obtain⟨u,rfl,ru⟩:=rv.one;obtain⟨t,rfl⟩:=ru;obtain⟨z,its,n,r,hl,e⟩:=I.lstM hH;obtain⟨w,hw,rw'⟩:=r.get hy;refine call_meets F.slot_list_pop ⟨_,e,rfl⟩ F.entry_list_pop (F.args_list_pop_2 _ _)
  (MeetsSeq.list_pop_at l its.toArray n i t k w (fitsIndex_both h1 h2) (by rw[kF,<-hl];exact hk) (by rw[<-Array.getElem?_toList];exact hw)<|by rw[kF];lia) ⟨e,?_⟩
 refine⟨y,_,I.lset (its':=its.eraseIdx k) hH e ?_ (r.eraseIdx k) ?_,rw',q⟩
 ·show its.toArray.eraseIdxIfInBounds k=(its.eraseIdx k).toArray;rw[List.eraseIdxIfInBounds_toArray]
 ·have:=z14 xs k
  lia
inductive rCat(x:V)(y:V)(H:Hp)(Q:VK):Prop
|mk (l:_) (b:_) (xs:_) (zs:_):x=.ref l->y=.ref b->H l=some (.lst xs)->H b=some (.lst zs)->xs.length+zs.length<=sizeLine->(∀p,H p=none->Q (.ref p) (upd H p<|.lst (xs++zs)))->rCat x y H Q
def Zv:OpR X (binaryOp .Add) rCat:=by
 intro vY s σ H x y v u Q I rx ry h;obtain⟨l,b,xs,zs,rfl,rfl,hH,hB,hz,q⟩:=h;cases rx;cases ry;obtain⟨z,its,n,r,hl,e⟩:=I.lstM hH;obtain⟨z2,its2,n2,r2,hl2,e2⟩:=I.lstM hB;refine PySem.P.add_list e e2 ?_ (by rw[kF,kF];lia);have ea:its.toArray++its2.toArray=(its++its2).toArray:=by simp
 rw[ea];exact⟨.ref _,_,I.lnew (t':=s.toks) (r.append r2) (by rw[km];lia),rfl,q _ I.fresh⟩
inductive rRep(x:V)(y:V)(H:Hp)(Q:VK):Prop
|mk (l:_) (k:_) (xs:_):x=.ref l->y=.int k->H l=some (.lst xs)->-(2 ^ 63)<=k->k < 2 ^ 63->xs.length * k.toNat<=sizeLine->(∀p,H p=none->Q (.ref p) (upd H p<|.lst (List.replicate k.toNat xs).flatten))->rRep x y H Q
def z8s{α:Type}(xs:List α)(k:Nat):(List.replicate k xs).flatten.length=k * xs.length:=by
 induction k with
|zero=>simp
|succ k ih=>rw[vG,vV,km,ih,Nat.succ_mul,Nat.add_comm]
def z4w:OpR X (binaryOp .Mult) rRep:=by
 intro vY s σ H x y v u Q I rx ry h;obtain⟨l,k,xs,rfl,rfl,hH,h1,h2,hz,q⟩:=h;cases rx;obtain⟨t,rfl⟩:=ry;obtain⟨z,its,n,r,hl,e⟩:=I.lstM hH;have hlen:its.toArray.size * k.toNat<=sizeLine:=by rw[kF,<-hl];exact hz
 have hcap:¬its.toArray.size * k.toNat > (2 ^ 63 - 1) / 8:=by
  have:(sizeLine:Nat)<=(2 ^ 63 - 1) / 8:=by decide
  lia
 have hfit:¬(!Builtin.List.listFitsIndex k)=true:=by
  rw[fitsIndex_both h1 h2];exact ke
 have hlong:¬Builtin.List.listTooLong (its.toArray.size * k.toNat)=true:=by
  rw[z6q hlen];exact ke
 have hnew:List.foldl (fun x1 x2=>x1++x2) #[] (List.replicate (if its.toArray.isEmpty=true then 0 else k.toNat) its.toArray)=(List.replicate k.toNat its).flatten.toArray:=by
  have f0:∀m:Nat,List.foldl (fun x1 x2=>x1++x2) #[] (List.replicate m its.toArray)=(List.replicate m its).flatten.toArray:=fun m=>by
   have:=z1g its m []
   rw[List.nil_append] at this;exact this
  rw[f0];cases its with
 |nil=>simp
 |cons a r'=>rw[ky<|by simp]
 refine wpAny_binaryOp_repeat_ref (T:="list") (U:="int") (by decide) ⟨_,e,rfl⟩ (fun s'=>typeIs_int s' k t) noFill_list_mul F.fills_int_mul F.slot_int_rmul repeat_list F.slot_int_index.lookup
  (call_meets F.slot_int_rmul (typeIs_int s k t) F.entry_int_rmul (F.args_int_rmul_2 _ _) (int___rmul___int_list k t l its.toArray n)
   ⟨e,rfl,⟨_,e,rfl⟩,call_meets F.slot_list_mul ⟨_,e,rfl⟩ F.entry_list_mul (F.args_list_mul_2 _ _) (AutoListH.list___mul___list_int_3 l its.toArray n k t hfit hcap hlong) ⟨e,?_⟩⟩)
 rw[hnew];exact⟨.ref _,_,I.lnew (t':=s.toks) (r.rep k.toNat) (by rw[z8s,Nat.mul_comm];exact hz),rfl,q _ I.fresh⟩
end
section
variable {prog:Program}{w:World}{A:Around}{E:Ab->Ac->Prop}{s:Ac}
set_option maxRecDepth 100000 in
end
section
variable {κ:Type}[DecidableEq κ]
noncomputable def valV(kvs:List (κ × V))(k:κ):Option V:=(kvs.find? fun kv=>decide (kv.1=k)).map (·.2)
noncomputable def putK(kvs:List (κ × V))(k:κ)(v:V):List (κ × V):=
 if (kvs.any fun kv=>decide (kv.1=k))=true then kvs.map (fun kv=>if kv.1=k then (kv.1,v) else kv) else kvs++[(k,v)]
def j6{p:κ × V}{r:List (κ × V)}{k:κ}(e:p.1=k):valV (p::r) k=some p.2:=by simp[valV,vP,e]
def j7{p:κ × V}{r:List (κ × V)}{k:κ}(e:¬p.1=k):valV (p::r) k=valV r k:=by simp[valV,vP,e]
def ZI(k:κ):∀kvs:List (κ × V),(kvs.any fun kv=>decide (kv.1=k))=(valV kvs k).isSome
|[]=>rfl
|p::r=>by
  rw[List.any_cons];by_cases e:p.1=k
  ·simp only[j6 e,kj e,Bool.true_or,Option.isSome_some]
  ·rw[j7 e,ki e,Bool.false_or];exact ZI k r
def z2i(k j:κ)(y:V):∀kvs:List (κ × V),valV (kvs.map fun kv=>if kv.1=k then (kv.1,y) else kv) j=(valV kvs j).map fun x=>if j=k then y else x
|[]=>rfl
|p::r=>by
  have ih:=z2i k j y r;rw[kU];by_cases h:p.1=k
  ·rw[kz h];by_cases e:p.1=j
   ·rw[j6 (p:=(p.1,y)) e,j6 e,Option.map_some,kz<|e.symm.trans h]
   ·rw[j7 (p:=(p.1,y)) e,j7 e,ih]
  ·rw[ky h];by_cases e:p.1=j
   ·rw[j6 (p:=p) e,j6 e,Option.map_some,ky fun z=>h<|e.trans z]
   ·rw[j7 (p:=p) e,j7 e,ih]
def z0F(k j:κ)(y:V):∀kvs:List (κ × V),valV kvs k=none->valV (kvs++[(k,y)]) j=if j=k then some y else valV kvs j
|[],_=>by
  by_cases e:k=j
  ·rw[kz e.symm];exact j6 (p:=(k,y)) e
  ·rw[ky fun z=>e z.symm];exact j7 (p:=(k,y)) e
|p::r,hn=>by
  rw[List.cons_append];have hk:¬p.1=k:=fun z=>by rw[j6 z] at hn;cases hn
  rw[j7 hk] at hn;have ih:=z0F k j y r hn;by_cases e:p.1=j
  ·rw[j6 e,j6 e,ky fun z=>hk<|e.trans z]
  ·rw[j7 e,j7 e,ih]
def Zl(kvs:List (κ × V))(k j:κ)(y:V):valV (putK kvs k y) j=if j=k then some y else valV kvs j:=by
 unfold putK;by_cases a:(kvs.any fun kv=>decide (kv.1=k))=true
 ·rw[kz a,z2i];rw[ZI] at a;by_cases e:j=k
  ·obtain⟨x,hx⟩:=Ag.mp a;rw[kz e,e,hx,Option.map_some,kz rfl]
  ·rw[ky e];cases valV kvs j with
  |none=>rfl
  |some x=>rw[Option.map_some,ky e]
 ·rw[ky a];refine z0F k j y kvs ?_;rw[ZI] at a;cases q:valV kvs k with
 |none=>rfl
 |some x=>rw[q] at a;exact (a rfl).elim
def qm(kvs:List (κ × V))(k:κ)(v:V):(putK kvs k v).length<=kvs.length+1:=by
 unfold putK;split
 ·rw[kl];lia
 ·rw[km,kP,List.length_nil];lia
def z2x{kvs:List (κ × V)}{k:κ}(v:V)(h:valV kvs k=none):putK kvs k v=kvs++[(k,v)]:=by
 unfold putK;rw[ZI,h];exact ky (by decide)
def RelO.isSome_eq{o:Option V}{u:Option Ab}(r:RelO o u):o.isSome=u.isSome:=by
 cases o with
|none=>cases u with
 |none=>rfl
 |some _=>exact (show False from r).elim
|some _=>cases u with
 |none=>exact (show False from r).elim
 |some _=>rfl
def RelO.getD{o:Option V}{u:Option Ab}{d:V}{d':Ab}(r:RelO o u)(rd:RelV d d'):RelV (o.getD d) (u.getD d'):=by
 cases o with
|none=>cases u with
 |none=>exact rd
 |some _=>exact (show False from r).elim
|some _=>cases u with
 |none=>exact (show False from r).elim
 |some _=>exact r
def KV.val{kvs:List (κ × V)}{vs:List (κ × Ab)}(r:KV kvs vs)(k:κ):RelO (valV kvs k) (valueAt vs k):=by
 unfold KV at r;induction r with
|nil=>exact True.intro
|@cons p q ps qs h t ih=>
  obtain⟨h1,h2⟩:=h;by_cases e:p.1=k
  ·have e':q.1=k:=h1.symm.trans e;have b:valueAt (q::qs) k=some q.2:=by simp[valueAt,vP,e']
   rw[j6 e,b];exact h2
  ·have e':¬q.1=k:=fun z=>e (h1.trans z)
   have b:valueAt (q::qs) k=valueAt qs k:=by simp[valueAt,vP,e']
   rw[j7 e,b];exact ih
def KV.any{kvs:List (κ × V)}{vs:List (κ × Ab)}(r:KV kvs vs)(k:κ):(kvs.any fun kv=>decide (kv.1=k))=vs.any fun kv=>decide (kv.1=k):=by
 unfold KV at r;induction r with
|nil=>rfl
|cons h t ih=>rw[List.any_cons,List.any_cons,ih,h.1]
def KV.repl{kvs:List (κ × V)}{vs:List (κ × Ab)}(r:KV kvs vs)(k:κ){y:V}{u:Ab}(ry:RelV y u):
  KV (kvs.map fun kv=>if kv.1=k then (kv.1,y) else kv) (vs.map fun kv=>if kv.1=k then (kv.1,u) else kv):=by
 unfold KV at r ⊢
 induction r with
|nil=>exact .nil
|@cons p q ps qs h t ih=>
  rw[kU,kU];refine .cons ?_ ih;obtain⟨h1,h2⟩:=h;by_cases e:p.1=k
  ·rw[kz e,kz<|h1.symm.trans e];exact⟨h1,ry⟩
  ·rw[ky e,ky fun z=>e<|h1.trans z];exact⟨h1,h2⟩
def KV.put{kvs:List (κ × V)}{vs:List (κ × Ab)}(r:KV kvs vs)(k:κ){y:V}{u:Ab}(ry:RelV y u):KV (putK kvs k y) (stored vs k u):=by
 unfold putK stored;rw[r.any k];by_cases e:(vs.any fun kv=>decide (kv.1=k))=true
 ·rw[kz e,kz e];exact r.repl k ry
 ·rw[ky e,ky e];exact Paired.snoc r ⟨rfl,ry⟩
def KV.length{kvs:List (κ × V)}{vs:List (κ × Ab)}(r:KV kvs vs):kvs.length=vs.length:=Paired.length r
end
def z19{P:Program}{w:World}{k:Key}{u:Ab}(r:RelV (kV k) u):(zX P w).is k u=true:=by
 cases k with
|inl i=>obtain⟨t,e⟩:=(show ∃t,u=Value.int i t from r);subst e;exact z1Z P w i t
|inr x=>obtain⟨t,e⟩:=(show ∃t,u=Value.str x t from r);subst e;exact z1Y P w x t
def z1a{P:Program}{w:World}:∀{ks:List Key}{us:List Ab},Vals (ks.map kV) us->ItemsAre (zX P w) ks us
|[],_,r=>by rw[List.map_nil] at r;cases r;exact .nil
|k::ks,_,r=>by
  rw[kU] at r;cases r with
 |cons h t=>exact .cons (z19 h) (z1a t)
abbrev KT(H:Hp):List (List Key × V)->List (List Key × Aa × Ab)->Prop:=Paired fun p q=>p.1=q.1/\H q.2.1=some (.tup<|p.1.map kV)/\RelV p.2 q.2.2
def KT.val{H:Hp}{kvs:List (List Key × V)}{xs:List (List Key × Aa × Ab)}(r:KT H kvs xs)(k:List Key):RelO (valV kvs k) ((atKey xs k).map (·.2)):=by
 induction r with
|nil=>exact True.intro
|@cons p q ps qs h t ih=>
  obtain⟨h1,_,h2⟩:=h;by_cases e:p.1=k
  ·have e':q.1=k:=h1.symm.trans e;have b:atKey (q::qs) k=some q.2:=by simp[atKey,vP,e']
   rw[j6 e,b];exact h2
  ·have e':¬q.1=k:=fun z=>e (h1.trans z)
   have b:atKey (q::qs) k=atKey qs k:=by simp[atKey,vP,e']
   rw[j7 e,b];exact ih
def KT.repl{H:Hp}{kvs:List (List Key × V)}{xs:List (List Key × Aa × Ab)}(r:KT H kvs xs)(k:List Key){y:V}{u:Ab}(ry:RelV y u):
  KT H (kvs.map fun kv=>if kv.1=k then (kv.1,y) else kv) (xs.map<|putAt k u):=by
 induction r with
|nil=>exact .nil
|@cons p q ps qs h t ih=>
  rw[kU,kU];refine .cons ?_ ih;obtain⟨h1,h2,h3⟩:=h;unfold putAt;by_cases e:p.1=k
  ·rw[kz e,kz<|h1.symm.trans e];exact⟨h1,h2,ry⟩
  ·rw[ky e,ky fun z=>e<|h1.trans z];exact⟨h1,h2,h3⟩
def KT.put{H:Hp}{kvs:List (List Key × V)}{xs:List (List Key × Aa × Ab)}(r:KT H kvs xs)(k:List Key){b:Aa}{y:V}{u:Ab}(hb:H b=some (.tup<|k.map kV))(ry:RelV y u):
  KT H (putK kvs k y) (storedH xs k b u):=by
 have e:(kvs.any fun kv=>decide (kv.1=k))=(atKey xs k).isSome:=by
  rw[ZI,(r.val k).isSome_eq,Option.isSome_map]
 unfold putK storedH;rw[e];by_cases q:(atKey xs k).isSome=true
 ·rw[kz q,kz q];exact r.repl k ry
 ·rw[ky q,ky q];exact Paired.snoc r ⟨rfl,hb,ry⟩
def KT.keeps{H H':Hp}{kvs:List (List Key × V)}{xs:List (List Key × Aa × Ab)}(r:KT H kvs xs)(ht:∀b ys,H b=some (.tup ys)->H' b=some (.tup ys)):KT H' kvs xs:=
 Paired.mapP r fun _ _ z=>⟨z.1,ht _ _ z.2.1,z.2.2⟩
section
variable {P:Program}{w:World}{H:Hp}{h:Heap}{a:Aa}
def z9P{u:HO}(ok:HOk P w H h)(e:Rd H a u):qq P w H h a u:=e.ok ok
def z1l{kvs:List (Key × V)}(ok:HOk P w H h)(e:Rd H a (.dK kvs)):kvs.length<=sizeLine/\(a == sysModules)=false/\∃vs,KV kvs vs/\h.DictOf (zX P w) a vs:=
 show qq P w H h a (.dK kvs) from z9P ok e
def z3I{kvs:List (Key × V)}(ok:HOk P w H h)(e:H a=some (.dK kvs)):kvs.length<=sizeLine/\(a == sysModules)=false/\∃vs,KV kvs vs/\h.DictOf (zX P w) a vs:=z1l ok (.inl e)
def z17{ks:List Key}(ok:HOk P w H h)(e:H a=some (.tup<|ks.map kV)):(tupleKind<|zX P w).is h ks a:=by
 obtain⟨_,its,r,o,h1,h2,n,h3⟩:=(show qq P w H h a (.tup<|ks.map kV) from ok a _ e)
 exact⟨o,its.toArray,n,h1,h2,h3,by simpa using z1a r⟩
def z3H{kvs:List (List Key × V)}(ok:HOk P w H h)(e:Rd H a (.dT kvs)):kvs.length<=sizeLine/\(a == sysModules)=false/\
  ∃xs,KT H kvs xs/\h.DictOfH (tupleKind<|zX P w) a xs:=by
 obtain⟨z,y,xs,r,o,es,ep,h1,h2,h3,h4,h5⟩:=(show qq P w H h a (.dT kvs) from z9P ok e)
 refine⟨z,y,xs,r,o,es,ep,h1,h2,h3,h4,fun x hx=>?_,h5⟩;have all:∀{l:List (List Key × V)}{m:List (List Key × Aa × Ab)},KT H l m->∀x∈m,(tupleKind<|zX P w).is h x.1 x.2.1:=by
  intro l m q;induction q with
 |nil=>intro x hx;exact nomatch hx
 |@cons p q ps qs hq t ih=>
   intro x hx;rcases kE.mp hx with e|hx
   ·subst e;exact z17 ok (by rw[<-hq.1];exact hq.2.1)
   ·exact ih x hx
 exact all r x hx
def zbW{kvs:List (List Key × V)}(ok:HOk P w H h)(e:H a=some (.dT kvs)):kvs.length<=sizeLine/\(a == sysModules)=false/\
  ∃xs,KT H kvs xs/\h.DictOfH (tupleKind<|zX P w) a xs:=z3H ok (.inl e)
end
def DGet(H:Hp)(a:Aa)(y:V)(r:Option V):Prop:=
 (∃kvs k,Rd H a (.dK kvs)/\y=kV k/\r=valV kvs k)\/∃kvs k b,Rd H a (.dT kvs)/\y=.ref b/\H b=some (.tup<|k.map kV)/\r=valV kvs k
def DPut(H:Hp)(a:Aa)(y v:V)(H':Hp):Prop:=
 (∃kvs k,H a=some (.dK kvs)/\y=kV k/\kvs.length < sizeLine/\H'=upd H a (.dK<|putK kvs k v))\/
 ∃kvs k b,H a=some (.dT kvs)/\y=.ref b/\H b=some (.tup<|k.map kV)/\kvs.length < sizeLine/\H'=upd H a (.dT<|putK kvs k v)
def DGet.k{H:Hp}{a:Aa}{kvs:List (Key × V)}{k:Key}(e:H a=some (.dK kvs)):DGet H a (kV k) (valV kvs k):=.inl ⟨kvs,k,.inl e,rfl,rfl⟩
def DPut.k{H:Hp}{a:Aa}{kvs:List (Key × V)}{k:Key}{v:V}(e:H a=some (.dK kvs))(hl:kvs.length < sizeLine):DPut H a (kV k) v (upd H a<|.dK<|putK kvs k v):=.inl ⟨kvs,k,e,rfl,hl,rfl⟩
section
variable {X:Cx}{vY:List (Aa × Obj)}{σ:St}{H:Hp}{s:Ac}{a:Aa}{y v:V}{u r:Ab}{o:Option V}{A:Around}{E:Ab->Ac->Prop}
def Inv.big(I:Inv X vY σ H s):sysModules < s.heap.objs.size:=by
 have h:mainGlobals < s.heap.objs.size:=(I.mod.glob.keeps I.bk).lt;exact Nat.lt_trans (by decide) h
def z5s{Q:Ab->Ac->Prop}(hu:A.units+1 < cLine)(I:Inv X vY σ H s)(g:DGet H a y (some v))(ry:RelV y u)(h:∀w' s',Inv X vY σ H s'->RelV v w'->Q w' s'):
  wpAny (model X.prog X.w) A (getItem (.ref a) u) Q E s:=by
 rcases g with ⟨kvs,k,e,ey,l⟩|⟨kvs,k,b,e,ey,eb,l⟩
 ·subst ey;obtain⟨z,hd,vs,rel,dd⟩:=z1l I.hok e;obtain⟨w',hw,rw'⟩:=RelO.some_of (v:=v) (o:=valueAt vs k) (by rw[l];exact rel.val k);exact wpAny_getItem_of (z19 ry) dd.mapOf hw (h w' _ (I.tok _) rw')
 ·subst ey;cases (show u=Value.ref b from ry);obtain⟨z,hd,xs,rel,dd⟩:=z3H I.hok e;obtain⟨w',hw,rw'⟩:=RelO.some_of (v:=v) (o:=(atKey xs k).map (·.2)) (by rw[l];exact rel.val k);obtain⟨p,hp,hp2⟩:=Ad.mp hw;refine wpAny_getItem_heap (tupleKind_room_in1 hu) (z17 I.hok eb) dd hp ?_;rw[hp2];exact h w' _ (I.tok _) rw'
def d_in{Q:Ab->Ac->Prop}(hu:A.units+1 < cLine)(I:Inv X vY σ H s)(g:DGet H a y o)(ry:RelV y u)(h:∀s',Inv X vY σ H s'->Q (.bool o.isSome) s'):
  wpAny (model X.prog X.w) A (compareOp .In u<|.ref a) Q E s:=by
 rcases g with ⟨kvs,k,e,ey,l⟩|⟨kvs,k,b,e,ey,eb,l⟩
 ·subst ey;obtain⟨z,hd,vs,rel,dd⟩:=z1l I.hok e;refine wpAny_in_of (z19 ry) hd dd.mapOf ?_;rw[<-(rel.val k).isSome_eq,<-l];exact h _ (I.tok _)
 ·subst ey;cases (show u=Value.ref b from ry);obtain⟨z,hd,xs,rel,dd⟩:=z3H I.hok e;refine wpAny_in_heap (tupleKind_room_in1 hu) (z17 I.hok eb) hd dd ?_;have q:=(rel.val k).isSome_eq;rw[Option.isSome_map] at q;rw[<-q,<-l];exact h _ (I.tok _)
def Jk{h':Heap}{t':Nat}{ob:HO}(I:Inv X vY σ H s)(mu:Mut (H a))(hs:Heap.SameBut a s.heap h')(he:∃q,h'.get? a=some q)(new:qq X.prog X.w (upd H a ob) h' a ob):
  Inv X vY σ (upd H a ob) {s with heap:=h',toks:=t'}:=
 I.write (x:=a) (e:=a) mu (.inl rfl) (fun b q hb z=>(hs.2 b hb).trans z) he new
def z2U{P:Program}{w:World}{H':Hp}{h':Heap}{kvs:List (Key × V)}{vs:List (Key × Ab)}(z:kvs.length<=sizeLine)(hd:(a == sysModules)=false)(rel:KV kvs vs)(dd:h'.DictOf (zX P w) a vs):
  qq P w H' h' a (.dK kvs):=⟨z,hd,vs,rel,dd⟩
def z5r{H':Hp}{Q:Unit->Ac->Prop}(hu:A.units+1 < cLine)(I:Inv X vY σ H s)(g:DPut H a y v H')(ry:RelV y u)(rv:RelV v r)(h:∀s',Inv X vY σ H' s'->Q () s'):
  wpAny (model X.prog X.w) A (setItem (.ref a) u r) Q E s:=by
 rcases g with ⟨kvs,k,e,ey,l,eH⟩|⟨kvs,k,b,e,ey,eb,l,eH⟩
 ·subst ey eH;obtain⟨z,hd,vs,rel,dd⟩:=z3I I.hok e;have hz:vs.length<=sizeLine:=by rw[<-rel.length];exact z
  have hl:(putK kvs k v).length<=sizeLine:=by have:=qm kvs k v;lia
  refine wpAny_setItem_pairs (hsz:=hz) (z19 ry) dd fun h' dd' hs=>h _ ?_
  have he:∃q,h'.get? a=some q:=let ⟨q,_,_,hq,_⟩:=dd';⟨q,hq⟩;exact Jk I (by rw[e];exact True.intro) hs he (z2U hl hd (rel.put k rv) dd')
 ·subst ey eH;cases (show u=Value.ref b from ry);obtain⟨z,hd,xs,rel,dd⟩:=zbW I.hok e;have hz:xs.length<=sizeLine:=by rw[<-Paired.length rel];exact z
  have hl:(putK kvs k v).length<=sizeLine:=by have:=qm kvs k v;lia
  refine wpAny_setItem_heap (hsz:=hz) (tupleKind_room_in1 hu) (z17 I.hok eb) dd fun h' dd' hs=>h _ ?_
  obtain⟨q,es,ep,hq,h2,h3,h4,_,h5⟩:=dd';refine Jk I (by rw[e];exact True.intro) hs ⟨q,hq⟩ ⟨hl,hd,_,(rel.put k eb rv).keeps fun c ys ec=>?_,q,es,ep,hq,h2,h3,h4,h5⟩;rw[zg<|jI ec e fun z=>nomatch z];exact ec
end
section
variable {X:Cx}{vY:List (Aa × Obj)}{σ:St}{H:Hp}{s:Ac}{a:Aa}{kvs:List (Key × V)}{k:Key}{u:Ab}{A:Around}{E:Ab->Ac->Prop}
def zbY{Q:Ab->Ac->Prop}(I:Inv X vY σ H s)(e:Rd H a (.dK kvs))(h:∀t s',Inv X vY σ H s'->Q (.int kvs.length t) s'):wpAny (model X.prog X.w) A (call (.builtin "len") [.ref a]) Q E s:=by
 obtain⟨z,hd,vs,rel,dd⟩:=z1l I.hok e;refine call_len_dict hd dd (by rw[<-rel.length];rw[sizeLine_eq] at z;lia) ?_;rw[<-rel.length];exact h _ _ (I.tok _)
end
def NoSl(i:Expr):Prop:=∀ov iv,subscripted i false ov iv=operate [ov,iv] (getItem ov iv)
def z1B{prog:Program}{w:World}{A:Around}{E:Ab->Ac->Prop}{s:Ac}{env:Env}{value slice:Expr}{pos:Pos}{T id:String}{Q:Ab->Ac->Prop}(hl:typeLookup (.type T) "__getitem__"=pure (some<|.builtin id))(hs:NoSl slice)(h:wpAny (model prog w) A (eval value env) (fun o s₁=>wpAny (model prog w) A (eval slice env) (fun i s₂=>s₂.TypeIs o T/\wpAny (model prog w) A (getItem o i) Q E s₂) E s₁) E s):
  wpAny (model prog w) A (eval (.Subscript value slice pos) env) Q E s:=by
 refine Subscript_ (vM h (fun o s₁ h₁=>vM h₁ (fun i s₂ h₂=>?_) fun _ _ x=>x) fun _ _ x=>x);obtain⟨hT,h₂⟩:=h₂;unfold subscriptTail;refine va ?_;rw[getitemInPython_of_ne hT.not_modules];refine va (wpAny_specialOf hT hl ?_);have fin:wpAny (model prog w) A (subscripted slice false o i) (fun r s₃=>wpAny (model prog w) A (letTemporaryGo value o r >>= fun _=>pure r) Q E s₃) E s₂:=by
  rw[hs o i];exact wpAny_operating (vM h₂ (fun r s₃ h₃=>va<|wpAny_letTemporaryGo<|ve h₃) fun _ _ x=>x)
 first
 |exact ve (va fin)
 |exact va (ve<|va fin)
 |exact va fin
def z26{X:Cx}{vY:List (Aa × Obj)}{σ:St}{H:Hp}{s:Ac}{a:Aa}{y:V}{o:Option V}(I:Inv X vY σ H s)(g:DGet H a y o):s.TypeIs (.ref a) "dict":=by
 rcases g with ⟨kvs,k,e,_,_⟩|⟨kvs,k,b,e,_,_,_⟩
 ·obtain⟨_,_,vs,_,dd⟩:=z1l I.hok e;exact dd.typeIs
 ·obtain⟨_,_,xs,_,dd⟩:=z3H I.hok e;exact dd.typeIs
def zbh(td ty:TE):TE:=fun σ H Q=>td σ H fun x H1=>ty σ H1 fun y H2=>∃a v,x=.ref a/\DGet H2 a y (some v)/\Q v H2
def tDIn(ty td:TE):TE:=fun σ H Q=>ty σ H fun y H1=>td σ H1 fun x H2=>∃a o,x=.ref a/\DGet H2 a y o/\Q (.bl o.isSome) H2
def zbq(td ty tv:TE):TS:=fun D σ H=>tv σ H fun v H1=>td σ H1 fun x H2=>ty σ H2 fun y H3=>∃a H4,x=.ref a/\DPut H3 a y v H4/\D.nx σ H4
section
variable {X:Cx}{o i e value:Expr}{pos pos' tpos:Pos}{td ty tv:TE}
def ZC(hu:X.A.units+1 < cLine)(ho:PE X o td)(hi:PE X i ty)(hs:NoSl i):PE X (.Subscript o i pos) (zbh td ty):=by
 intro vY s σ H Q I h;refine z1B PySem.F.slot_dict_getitem.lookup hs (thn (ho vY s σ H _ I h) fun u s1 ⟨x,H1,I1,rx,q1⟩=>thn (hi vY s1 σ H1 _ I1 q1) fun iv s2 zz=>?_);obtain⟨y,H2,I2,ry,a,v,ex,g,q2⟩:=zz;subst ex;obtain rfl:u=Value.ref a:=rx;exact⟨z26 I2 g,z5s hu I2 g ry fun w' s3 I3 rw'=>⟨v,H2,I3,rw',q2⟩⟩
def za4(hu:X.A.units+1 < cLine)(hi:PE X i ty)(ho:PE X o td):PC X .In i o (tDIn ty td):=by
 intro vY s σ H Q I h;refine thn (hi vY s σ H _ I h) fun iv s1 ⟨y,H1,I1,ry,q1⟩=>thn (ho vY s1 σ H1 _ I1 q1) fun u s2 zz=>?_
 obtain⟨x,H2,I2,rx,a,ov,ex,g,q2⟩:=zz;subst ex;obtain rfl:u=Value.ref a:=rx;exact d_in hu I2 g ry fun s3 I3=>⟨.bl ov.isSome,H2,I3,rfl,q2⟩
def z4i(hu:X.A.units+1 < cLine)(ho:PE X o td)(hi:PE X i ty)(hv:PE X value tv)(hs:swapsWith value (some<|.Subscript o i pos') pos.line X.env=pure false):
  PS X (.Assign [.Subscript o i pos'] value pos) (zbq td ty tv):=by
 intro vY s σ H D I h;refine wpAny_Assign_Subscript (thn (hv vY s σ H _ I h) fun r s1 ⟨v,H1,I1,rv,q1⟩=>thn (ho vY s1 σ H1 _ I1 q1) fun u s2 ⟨x,H2,I2,rx,q2⟩=>thn (hi vY s2 σ H2 _ I2 q2) fun iv s3 ⟨y,H3,I3,ry,a,H4,ex,g,q3⟩=>?_) hs;subst ex;obtain rfl:u=Value.ref a:=rx;exact z5r hu I3 g ry rv fun s4 I4=>⟨σ,H4,I4,q3⟩
end
def z0y{P:Program}{w:World}{H:Hp}(h:Heap)(hb:sysModules < h.objs.size):qq P w H (h.push {cls:=.type "dict",data:=.dict #[]}) h.objs.size (.dK []):=
 ⟨vj _,Ai.mpr<|Ne.symm<|vn hb,[],.nil,Heap.DictOf.new h⟩
def z9v:TE:=fun _ H Q=>∀p,H p=none->Q (.ref p) (upd H p<|.dK [])
section
variable {X:Cx}{pos:Pos}
def QN:PE X (.Dict [] [] pos) z9v:=fun vY s σ H Q I h=>
 wpAny_Dict_empty ⟨.ref s.heap.objs.size,_,I.laid (a:=s.heap.objs.size) (o:=.dK []) (t':=s.toks) (fun _ _ q=>vb _ q) (kg _)<|z0y s.heap I.big,rfl,h _<|I.hok.fresh<|kg _⟩
end
def z3V:List (TE × TE)->St->Hp->(List (V × V)->Hp->Prop)->Prop
|[],_,H,Q=>Q [] H
|(tk,tv)::r,σ,H,Q=>tk σ H fun x H1=>tv σ H1 fun y H2=>z3V r σ H2 fun ps H3=>Q ((x,y)::ps) H3
abbrev VV:List (V × V)->List (Ab × Ab)->Prop:=Paired fun p q=>RelV p.1 q.1/\RelV p.2 q.2
def PPs(X:Cx)(pos:Pos)(keys:List (Option Expr))(values:List Expr)(trs:List (TE × TE)):Prop:=
 ∀(vY:List (Aa × Obj))(s:Ac)(σ:St)(H:Hp)(Q:List (V × V)->Hp->Prop),Inv X vY σ H s->z3V trs σ H Q->
  wpAny (model X.prog X.w) X.A (evalPairs<|pairTrees keys values X.env pos) (fun vs s'=>∃ps H',Inv X vY σ H' s'/\VV ps vs/\Q ps H') X.xe s
def z4k{X:Cx}{pos:Pos}:PPs X pos [] [] []:=fun vY s σ H Q I h=>pairTrees_nil_walk ⟨[],H,I,.nil,h⟩
def ZR{X:Cx}{pos:Pos}{k v:Expr}{ks:List (Option Expr)}{vs:List Expr}{tk tv:TE}{trs:List (TE × TE)}(hk:PE X k tk)(hv:PE X v tv)(hr:PPs X pos ks vs trs):
  PPs X pos (some k::ks) (v::vs) ((tk,tv)::trs):=fun vY s σ H Q I h=>
 pairTrees_cons_walk (thn (hk vY s σ H _ I h) fun u s1 ⟨x,H1,I1,rx,q1⟩=>thn (hv vY s1 σ H1 _ I1 q1) fun w2 s2 ⟨y,H2,I2,ry,q2⟩=>
  thn (hr vY s2 σ H2 _ I2 q2) fun ws s3 ⟨ps,H3,I3,rel,q3⟩=>⟨(x,y)::ps,H3,I3,.cons ⟨rx,ry⟩ rel,q3⟩)
noncomputable def Qx(kvs more:List (Key × V)):List (Key × V):=more.foldl (fun acc kv=>putK acc kv.1 kv.2) kvs
def KV.merge:∀{more:List (Key × V)}{rs:List (Key × Ab)}{kvs:List (Key × V)}{vs:List (Key × Ab)},KV more rs->KV kvs vs->KV (Qx kvs more) (merged vs rs):=by
 intro more rs kvs vs r;unfold KV at r;induction r generalizing kvs vs with
|nil=>intro q;exact q
|@cons p q ps qs h t ih=>
  intro r0;have e:KV (putK kvs p.1 p.2) (stored vs q.1 q.2):=by
   have:=r0.put p.1 h.2
   rw[<-h.1];exact this
  exact ih e
def ZX:∀(more kvs:List (Key × V)),(Qx kvs more).length<=kvs.length+more.length
|[],kvs=>by show kvs.length<=kvs.length+0;lia
|p::r,kvs=>by
  have h1:=ZX r (putK kvs p.1 p.2);have h2:=qm kvs p.1 p.2;show (Qx (putK kvs p.1 p.2) r).length<=_;rw[kP];lia
def JE{P:Program}{w:World}:∀{kvs:List (Key × V)}{ws:List (Ab × Ab)},VV (kvs.map fun kv=>(kV kv.1,kv.2)) ws->∃rs,Carries (zX P w) ws rs/\KV kvs rs
|[],_,r=>by rw[List.map_nil] at r;cases r;exact⟨[],True.intro,.nil⟩
|p::kvs,_,r=>by
  rw[kU] at r;cases r with
 |@cons a b as bs h t=>
   obtain⟨rs,c,q⟩:=JE (P:=P) (w:=w) t;obtain⟨b1,b2⟩:=b;exact⟨(p.1,b2)::rs,⟨z19 h.1,rfl,c⟩,.cons ⟨rfl,h.2⟩ q⟩
def zbg(trs:List (TE × TE)):TE:=fun σ H Q=>∀p,H p=none->z3V trs σ (upd H p<|.dK []) fun ps H2=>H2 p=some (.dK [])/\∃kvs:List (Key × V),ps=kvs.map (fun kv=>(kV kv.1,kv.2))/\kvs.length<=15/\Q (.ref p) (upd H2 p<|.dK<|Qx [] kvs)
def z4s{X:Cx}{pos:Pos}{keys:List (Option Expr)}{values:List Expr}{trs:List (TE × TE)}(h:PPs X pos keys values trs)(hall:keys.all (·.isSome)=true)(hl:keys.length=values.length)(h0:keys≠[])(h15:keys.length<=15):PE X (.Dict keys values pos) (zbg trs):=by
 intro vY s σ H Q I q;have hn:=I.hok.fresh (kg s.heap.objs.size);have I1:=I.laid (a:=s.heap.objs.size) (o:=.dK []) (h':=s.heap.push {cls:=.type "dict",data:=.dict #[]}) (t':=s.toks) (fun _ _ q=>vb _ q) (kg _) (z0y s.heap I.big);refine wpAny_Dict_walk (knd:=zX X.prog X.w) hall hl h0 h15 (thn (h vY _ σ _ _ I1<|q _ hn) fun ws s2 zz=>?_);obtain⟨ps,H2,I2,rel,e,kvs,ep,lk,q2⟩:=zz;subst ep;obtain⟨rs,c,rk⟩:=JE (P:=X.prog) (w:=X.w) rel;obtain⟨z,hd,vs0,r0,dd⟩:=z3I I2.hok e;cases r0;refine⟨rs,c,dd,fun h' dd' hs=>⟨.ref s.heap.objs.size,_,?_,rfl,q2⟩⟩;have hz:(Qx [] kvs).length<=sizeLine:=by
  have h1:=ZX kvs [];rw[List.length_nil] at h1;rw[sizeLine_eq];lia
 have he:∃q,h'.get? s.heap.objs.size=some q:=let ⟨q,_,_,hq,_⟩:=dd';⟨q,hq⟩;exact Jk I2 (by rw[e];exact True.intro) hs he (z2U hz hd (rk.merge .nil) dd')
structure M1(X:Cx)(o:Expr)(m:Str)(apos:Pos)(e:Expr)(cpos:Pos):Prop where
 base:attributeBase o m X.env (eval o X.env)=eval o X.env
 few:((backTo cpos<|starEach [e] X.env).all (fun x=> !x.1)&&(backToKw cpos<|keywordEach [] X.env).all (fun x=>x.1.isSome)
  &&decide (([e]:List Expr).length+([]:List Keyword).length+(if ([]:List Keyword).isEmpty then 0 else 1) < 30))=true
 line:(apos.endLine == cpos.line)=true
 trees:backTo cpos (starEach [e] X.env)=[(false,eval e X.env)]
structure M2(X:Cx)(o:Expr)(m:Str)(apos:Pos)(e f:Expr)(cpos:Pos):Prop where
 base:attributeBase o m X.env (eval o X.env)=eval o X.env
 few:((backTo cpos<|starEach [e,f] X.env).all (fun x=> !x.1)&&(backToKw cpos<|keywordEach [] X.env).all (fun x=>x.1.isSome)
  &&decide (([e,f]:List Expr).length+([]:List Keyword).length+(if ([]:List Keyword).isEmpty then 0 else 1) < 30))=true
 line:(apos.endLine == cpos.line)=true
 trees:backTo cpos (starEach [e,f] X.env)=[(false,eval e X.env),(false,eval f X.env)]
def IsD(H:Hp)(a:Aa):Prop:=(∃kvs,Rd H a<|.dK kvs)\/∃kvs,Rd H a (.dT kvs)
def z7C{X:Cx}{vY:List (Aa × Obj)}{σ:St}{H:Hp}{s:Ac}{a:Aa}(I:Inv X vY σ H s)(d:IsD H a):
  s.TypeIs (.ref a) "dict"/\(∀b,Value.ref a=.ref b->∃ob,s.heap.get? b=some ob/\ob.dict=none)/\(a == sysModules)=false:=by
 rcases d with ⟨kvs,e⟩|⟨kvs,e⟩
 ·obtain⟨_,hd,vs,_,dd⟩:=z1l I.hok e;refine⟨dd.typeIs,fun b q=>?_,hd⟩;cases q;obtain⟨ob,_,_,h1,h2,_⟩:=dd;exact⟨ob,h1,h2.2.1⟩
 ·obtain⟨_,hd,xs,_,dd⟩:=z3H I.hok e;refine⟨dd.typeIs,fun b q=>?_,hd⟩;cases q;obtain⟨ob,_,_,h1,h2,_⟩:=dd;exact⟨ob,h1,h2.2.1⟩
section
variable {X:Cx}{vY:List (Aa × Obj)}{σ:St}{H:Hp}{s:Ac}{a:Aa}{y d:V}{u r:Ab}{o:Option V}{A:Around}{E:Ab->Ac->Prop}
def zaZ{Q:Ab->Ac->Prop}(hu:A.units+1 < cLine)(I:Inv X vY σ H s)(g:DGet H a y o)(ry:RelV y u)(h:∀w' s',Inv X vY σ H s'->RelV (o.getD .non) w'->Q w' s'):
  wpAny (model X.prog X.w) A (call (.builtin "dict.get") [.ref a,u]) Q E s:=by
 rcases g with ⟨kvs,k,e,ey,l⟩|⟨kvs,k,b,e,ey,eb,l⟩
 ·subst ey;obtain⟨z,hd,vs,rel,dd⟩:=z1l I.hok e;refine call_meetsIn vU dd.typeIs PySem.F.entry_dict_get (PySem.F.args_dict_get_2 _ _) (meets_dict_get (zX X.prog X.w) a (z19 ry) hd) ⟨_,dd.mapOf,h _ _ (I.tok _) ?_⟩;rw[l];exact (rel.val k).getD rfl
 ·subst ey;cases (show u=Value.ref b from ry);obtain⟨z,hd,xs,rel,dd⟩:=z3H I.hok e;refine call_meetsIn vU dd.typeIs PySem.F.entry_dict_get (PySem.F.args_dict_get_2 _ _) (meetsH_dict_get (tupleKind<|zX X.prog X.w) a b hd) ⟨tupleKind_room_in1 hu,k,xs,z17 I.hok eb,dd,h _ _ (I.tok _) ?_⟩;rw[l];exact (rel.val k).getD rfl
end
def z9y(td ty:TE):TE:=fun σ H Q=>td σ H fun x H1=>∃a,x=.ref a/\IsD H1 a/\ty σ H1 fun y H2=>∃o,DGet H2 a y o/\Q (o.getD .non) H2
section
variable {X:Cx}{o e f:Expr}{apos cpos:Pos}{td ty tx:TE}
def z6e(hu:X.A.units+1 < cLine)(ho:PE X o td)(he:PE X e ty)(m:M1 X o "get" apos e cpos):PE X (.Call (.Attribute o "get" apos) [e] [] cpos) (z9y td ty):=by
 intro vY s σ H Q I h;refine wpAny_Call_method m.base m.few m.line PySem.F.plainAttrs_dict vU PySem.F.type_dict_get (thn (ho vY s σ H _ I h) fun u s1 zz=>?_);obtain⟨x,H1,I1,rx,a,ex,d,q1⟩:=zz;subst ex;obtain rfl:u=Value.ref a:=rx;obtain⟨t1,t2,_⟩:=z7C I1 d;refine⟨t1,t2,?_⟩;rw[m.trees];refine vF rfl (Calls.evalArgs_plain<|vN (thn (he vY s1 σ H1 _ I1 q1) fun iv s2 ⟨y,H2,I2,ry,ov,g,q2⟩=>Calls.spliced_nil ?_));exact zaZ hu I2 g ry fun w' s3 I3 rw'=>⟨_,H2,I3,rw',q2⟩
end
end L2
namespace Att
open PySem PySem.W PySem.Calls PyProof.Rows
def Jh{P:Params}{h:Heap}:∀(ns:List Int)(vs:List Ab),WellAll P h vs (ns.map WData.int)->IntsAre vs ns:=by
 intro ns;induction ns with
|nil=>
  intro vs w;rw[List.map_nil] at w;cases w;exact .nil
|cons n ns ih=>
  intro vs w;rw[kU] at w;cases w with
 |cons a b=>
   cases a;exact .cons _ _ (ih _ b)
def z4d{l:OpenLaw}{n:Nat}(hn:l.most=some n){P:Params}{h:Heap}{args:List WData}{vals:List Ab}(hpre:l.row.toRowW.claim.pre args=true)(hwl:WellAll P h vals args):
  ∃a vs ns,vals=[Value.ref a]/\args=[WData.list<|ns.map WData.int]/\h.get? a=some {cls:=.type "list",data:=.seq vs.toArray}/\IntsAre vs ns/\ns.length<=n:=by
 have hsh:WShape.hasAll [] args [.list .int]=true:=(pre_splitW hpre).1;have hc:l.pre.holds [] {args:=args}=true:=(pre_splitW hpre).2;obtain⟨d,r,rfl,h1,h2⟩:=hasAllW_cons hsh;obtain rfl:=hasAllW_nil h2;obtain⟨xs,rfl,h3⟩:=hasW_list h1;obtain⟨ns,rfl⟩:=items_int h3;have hlen:ns.length<=n:=by
  unfold OpenLaw.pre at hc;have h4:(WTm.not<|.lt (.lit<|.int (n:Int))<|.len<|.arg 0).holds [] {args:=[.list<|ns.map .int]}=true:=by
   have h4:=(holds_andW hc).1;rw[hn] at h4;exact h4
  have h5:=condW_of h4 (w_not<|w_lt w_lit<|w_len_list<|w_arg rfl);rw[kl] at h5;refine Nat.le_of_not_lt fun q=>?_
  have q':(n:Int) < ((ns.length:Nat):Int):=by lia
  first
  |(rw[kj q'] at h5;exact vd h5 (by decide))
  |(simp at h5;lia)
 cases hwl with
|cons w1 w2=>
  cases w2;cases w1 with
 |list ho hall=>exact⟨_,_,ns,rfl,rfl,ho,Jh ns _ hall,hlen⟩
def z4l(l:OpenLaw)(args:List WData):l.row.toRowW.claim.post args (.bool true) args=true:=
 postW_of (r:=l.row.toRowW) (X:=(true == true))
  (show WShape.has [] (.bool true) .bool=true by first|rfl|decide|simp[WShape.has,WShape.arms,WShape.armsAll])
  (show (WTm.eq .res<|.lit<|.bool true).value [] {args:=args,res:=some (.bool true),after:=args}=some (.bool (true == true)) from w_eq_bool (w_res rfl) w_lit) rfl
def attach_call{l:OpenLaw}{n:Nat}{q:Program}{loose:List Str}{XP:(Str->Option Ab)->Heap->Prop}{YP:World->Heap->Prop}{d:DefRec}(hn:l.most=some n)(hdf:d.params.defaults=[])(call:∀(w:World)(s₀ s₁:Ac)(mg mb:Str->Option Ab)(fa:Aa)(o:Obj)(pm cd doc:Ab)(a:Aa)(vs:List Ab)(ns:List Int),
   Ground q loose [] XP w s₀ mg mb s₁.heap->YP w s₁.heap->
   s₁.heap.get? fa=some o->o.data=.func (docDef d.name d.params d.body d.scope pm cd doc)->s₁.heap.CodeRec cd d.name->mg d.name=some (.ref fa)->
   s₁.heap.get? a=some {cls:=.type "list",data:=.seq vs.toArray}->IntsAre vs ns->ns.length<=n->s₁.gens=#[]->
   codeAny (model l.prog w) callerA (.call (.ref fa) ⟨[.ref a],[]⟩) (fun r s'=>r=.ok (.ret<|.bool true)/\OldK s₁.heap s'.heap/\s'.os=s₁.os/\AllBare s'.gens) s₁):
  WalkO q loose XP YP l.row.toRowW d [] (fun f vs=>PySem.call f vs):=by
 intro w s₀ s₁ mg mb G Y fa o pm cd doc dV kV ho hd hcd hD hmg hg args vals as hpre hlay hrd hwl hlo;obtain rfl:dV=.none:=Dflts.none hD hdf;obtain rfl:kV=.none:=Dflts.noKw hD;obtain⟨a,vs,ns,rfl,rfl,hobj,hints,hlen⟩:=z4d hn hpre hwl;refine enter_call (codeAny_mono (call w s₀ s₁ mg mb fa o pm cd doc a vs ns G Y ho (fd_plain hd) hcd hmg hobj hints hlen hg) fun r s' hq=>?_);obtain⟨rfl,h2,h3,h4⟩:=hq;exact⟨.inl ⟨.bool true,.bool true,[],rfl,fun _=>rfl,.bool true,z4l l _,fun _=>⟨List.Pairwise.nil,fun _ hm=>(nomatch hm)⟩⟩,h2,h3,h4⟩
end Att
namespace L2
def z0E:∀{vs:List Ab}{ns:List Int},IntsAre vs ns->Vals (ns.map V.int) vs
|_,_,.nil=>.nil
|_,_,.cons n t h=>.cons ⟨t,rfl⟩ (z0E h)
def Only(H:Hp):Prop:=∀b,H b=none\/∃o xs,H b=some (.frz o<|.lst xs)
def z6z{P:Program}{w:World}{K:ku}{mg mb:Str->Option Ab}{CX:CXT}{k:Nat}{fa a:Aa}{fd:FuncData}{x:Str}{sp:Sp}{s₁:Ac}{vs:List Ab}{ns:List Int}(KX:K.In s₁.heap)(hns:s₁.heap.Ns mainGlobals mg)(hb:s₁.heap.Ns builtinsNs mb)(hbb:∀x:Str,x≠"__name__"->mb x=bootBuiltins x)(hlim:s₁.heap.NoLimit)(hg:s₁.gens=#[])(ha:s₁.heap.get? a=some {cls:=.type "list",data:=.seq vs.toArray})(hi:IntsAre vs ns)(hl:ns.length<=sizeLine)(hr:Room k callerA)(F:∀base:Heap,K.In base->base.Ns mainGlobals mg->FnOk P w K mg base CX k fa fd [x] sp)(hbind:∀(s:Ac)(u:Ab),BindsTo s fd ⟨[u],[]⟩ [(x,u)])(hsp:∀H:Hp,Only H->SqL K H a (ns.map V.int)->sp [.ref a] H (fun v _=>v=.bl true) fun _ _ _=>False)(hCX:∀H e s',CX [] H s₁ (fun _ _ _=>False) e s'->False):
  codeAny (model P w) callerA (.call (.ref fa) ⟨[.ref a],[]⟩) (fun r s'=>r=.ok (.ret<|.bool true)/\OldK s₁.heap s'.heap/\s'.os=s₁.os/\AllBare s'.gens) s₁:=by
 have rv:=z0E hi;have lenV:=hi.length;have core:∀H:Hp,Only H->SqL K H a (ns.map V.int)->HOk P w H s₁.heap->(∀b,H b≠none->b=a)->(H a≠none->K.lookup a=none)->
   codeAny (model P w) callerA (.call (.ref fa) ⟨[.ref a],[]⟩) (fun r s'=>r=.ok (.ret<|.bool true)/\OldK s₁.heap s'.heap/\s'.os=s₁.os/\AllBare s'.gens) s₁:=by
  intro H hO hS hok hA hK;have base_of:∀{b:Aa}{o:Obj},s₁.heap.get? b=some o->H b=none->(hidT s₁.heap H).get? b=some o:=fun e n=>z6F e n
  have noA:∀{b:Aa}{o:Obj}{es:Array DictEntry}{ep:Nat},s₁.heap.get? b=some o->o.data=.dict es ep->H b=none:=fun {b o es ep} e d=>by
   cases q:H b with
  |none=>rfl
  |some u=>
    have e':b=a:=hA b (by rw[q];simp);subst e';rw[ha] at e;cases e;have d':Data.seq vs.toArray _=Data.dict es ep:=d;cases d'
  have nsK:∀{b:Aa}{m:Str->Option Ab},s₁.heap.Ns b m->(hidT s₁.heap H).Ns b m:=fun {b m} ⟨o,es,ep,e,d,r⟩=>⟨o,es,ep,base_of e<|noA e d,d,r⟩
  have hKb:K.In (hidT s₁.heap H):=fun b o e=>base_of (KX b o e) (by
   cases q:H b with
  |none=>rfl
  |some u=>
    have e':b=a:=hA b (by rw[q];simp);subst e';rw[hK<|by rw[q];simp] at e;cases e)
  have hM:Mod K mg (hidT s₁.heap H):=⟨hKb,nsK hns,⟨mb,nsK hb,hbb⟩,let ⟨mc,h1,h2⟩:=hlim;⟨mc,nsK h1,h2⟩⟩
  have e0:Env0 P w K mg (hidT s₁.heap H) callerA [] s₁ H:=⟨rfl,hM,fun b o e=>z8j e,kY<|z4Y _ _,trivial,fun b hb=>vd (show b∈([]:List Aa) from hb) (by simp),hok,.of_eq hg⟩
  refine codeAny_mono ((F _ hKb<|nsK hns).run callerA [] s₁ H ⟨[.ref a],[]⟩ [.ref a] [.ref a] _ _ hr e0 (hbind s₁<|.ref a) (.cons rfl .nil)<|hsp H hO hS) fun r s' h=>?_
  cases r with
 |error e=>exact (hCX H e s' h).elim
 |ok fl=>
   cases fl with
  |next=>exact False.elim h
  |brk=>exact False.elim h
  |cont=>exact False.elim h
  |ret u=>
    obtain⟨v,H',os,bare,un,hok',r',q⟩:=h;have q':v=.bl true:=q;subst q';obtain rfl:u=Value.bool true:=r';refine⟨rfl,OldK.of_keep fun b o e=>?_,os,bare⟩;cases q:H b with
   |none=>exact un.keep b o e q (by intro z;exact vd (show b∈([]:List Aa) from z) (by simp)) (by simp)
   |some u=>
     rcases hO b with z|⟨ob,xs,z⟩
     ·rw[q] at z;cases z
     ·have z2:=un.frzs b ob _ z;obtain⟨e1,_⟩:=hok b _ z;obtain⟨e2,_⟩:=hok' b _ z2;rw[e] at e1;cases e1;exact e2
 cases hk:K.lookup a with
|some o=>
  have e:=KX a o hk;rw[ha] at e;cases e;refine core (fun _=>none) (fun _=>.inl rfl) (.inr ⟨_,vs.toArray,_,hk,rfl,rfl,rfl,by rw[kF,lenV];exact hl,by simpa using rv⟩) (fun b u z=>by have z':(none:Option HO)=some u:=z;cases z') (fun b z=>vd rfl z) fun z=>vd rfl z
|none=>
  refine core (fun b=>if b=a then some (.frz {cls:=.type "list",data:=.seq vs.toArray}<|.lst<|ns.map V.int) else none) (fun b=>?_) (.inl<|.inr ⟨{cls:=.type "list",data:=.seq vs.toArray},kz rfl⟩) (fun b u z=>?_) (fun b z=>?_) fun _=>hk
  ·by_cases hb:b=a
   ·exact .inr ⟨_,_,kz hb⟩
   ·exact .inl (ky hb)
  ·by_cases hb:b=a
   ·have z':=(kz hb).symm.trans z;cases z';subst hb;exact⟨ha,by rw[kl];exact hl,vs,_,rv,ha⟩
   ·have z':=(ky hb).symm.trans z;cases z'
  ·by_cases hb:b=a
   ·exact hb
   ·exact vd (ky hb) z
def z7K{l:PySem.W.OpenLaw}{n k:Nat}{q:Program}{loose:List Str}{XP:(Str->Option Ab)->Heap->Prop}{YP:World->Heap->Prop}{d:DefRec}{K:Params->ku}{CX:World->CXT}{sp:World->Sp}{x:Str}(hn:l.most=some n)(hn2:n<=sizeLine)(hdf:d.params.defaults=[])(hr:Room k callerA)(hY:∀(w:World)(h:Heap),YP w h->(K w.params).In h)(F:∀(w:World)(mg:Str->Option Ab)(fa:Aa)(h:Heap),(K w.params).In h->h.Ns mainGlobals mg->mg d.name=some (.ref fa)->
   ∃fd:FuncData,(∀(s:Ac)(u:Ab),BindsTo s fd ⟨[u],[]⟩ [(x,u)])/\
    ∀base:Heap,(K w.params).In base->base.Ns mainGlobals mg->FnOk l.prog w (K w.params) mg base (CX w) k fa fd [x] (sp w))(hsp:∀(w:World)(H:Hp)(a:Aa)(ns:List Int),ns.length<=n->Only H->SqL (K w.params) H a (ns.map V.int)->sp w [.ref a] H (fun v _=>v=.bl true) fun _ _ _=>False)(hCX:∀(w:World)(H:Hp)(s:Ac)(e:Ab)(s':Ac),CX w [] H s (fun _ _ _=>False) e s'->False):
  PySem.W.WalkO q loose XP YP l.row.toRowW d [] (fun f vs=>PySem.call f vs):=by
 refine Att.attach_call hn hdf fun w s₀ s₁ mg mb fa o pm cd doc a vs ns G Y ho hd hcd hmg hobj hints hlen hg=>?_
 have KX:=hY w _ Y;obtain⟨fd,hb,hF⟩:=F w mg fa _ KX G.T.g hmg;exact z6z KX G.T.g G.T.b G.T.builtins G.T.nolimit hg hobj hints (kr hlen hn2) hr hF hb (fun H hO hS=>hsp w H a ns hlen hO hS) fun H e s'=>hCX w H s₁ e s'
noncomputable def qF(s:Stmt):Arguments:=match s with
|.FunctionDef _ a _ _ _ _ _ _ _ _=>a
|_=>{posonlyargs:=[],args:=[],vararg:=none,kwonlyargs:=[],kw_defaults:=[],kwarg:=none,defaults:=[]}
noncomputable def zR(s:Stmt):List Stmt:=match s with
|.FunctionDef _ _ b _ _ _ _ _ _ _=>b
|_=>[]
noncomputable def zc(s:Stmt):Scope:=match s with
|.FunctionDef _ _ _ _ _ _ sc _ _ _=>sc
|_=>{kind:=.function,names:=[],isGenerator:=false,isCoroutine:=false}
abbrev CX0:CXT:=fun _ _ _ _ _ _=>False
abbrev E0:XK:=fun _ _ _=>False
def z3i{X:Cx}:Jr CX0 X E0:=fun _ _ _ _ _ _ _ h=>h.elim
structure Fun(K:ku)(x qual:Str)(st:Stmt)(f:Aa)(fd:FuncData):Prop where
 ex:∃(oc:Ab)(od:Option Aa)(kV doc pm:Ab)(an:Option Aa)(cdv ct:Ab)(osl:Array (Option Ab)),
  fd=PySem.W.fnOf x qual (qF st) (zR st) (zc st) .none kV doc pm an cdv ct/\K.lookup f=some ⟨oc,od,.func fd,osl⟩/\PySem.W.codeIn K cdv qual=true
 kp:PySem.W.keepIn K (.ref f)=true
section
variable {P:Program}{w:World}{K:ku}{mg:Str->Option Ab}{base:Heap}
def Fun.ok{x qual:Str}{st:Stmt}{f:Aa}{fd:FuncData}{N ps:List Str}{k:Nat}{sp:Sp}(F:Fun K x qual st f fd)(S:zj N ps (zc st))(len:∀vs H Q E,sp vs H Q E->vs.length=ps.length)(hbody:∀(cdv:Ab)(A:Around)(vZ:List Env)(s:Ac)(H:Hp)(vs:List V)(Q:VK)(E:XK),Room k (A.deeper<|envOfC qual (zc st) s.heap.objs.size f cdv)->sp vs H Q E->
   ∃t,PSs (cxOf CX0 P w K mg base N qual (zc st) f cdv A vZ s H E).nox (zR st) t/\t {nx:=fun _ H'=>Q .non H',rt:=Q} (start N vs) H):FnOk P w K mg base CX0 (k+1) f fd ps sp:=by
 obtain⟨oc,od,kV,doc,pm,an,cdv,ct,osl,rfl,lk,hcd⟩:=F.ex;refine zaM lk hcd S len fun A vZ s H vs Q E hr hsp=>?_
 obtain⟨t,h,q⟩:=hbody cdv A vZ s H vs Q E hr hsp;exact⟨t,h.nox,q⟩
def Fun.binds{x qual:Str}{st:Stmt}{f:Aa}{fd:FuncData}{ps:List Str}(F:Fun K x qual st f fd)(h:∀(kV doc pm:Ab)(an:Option Aa)(cdv ct:Ab)(us:List Ab),us.length=ps.length->bindArgs (PySem.W.fnOf x qual (qF st) (zR st) (zc st) .none kV doc pm an cdv ct) ⟨us,[]⟩=pure (ps.zip us)):Zt K fd ps []:=by
 obtain⟨oc,od,kV,doc,pm,an,cdv,ct,osl,rfl,lk,hcd⟩:=F.ex;exact .all (h kV doc pm an cdv ct)
def z2M{x qual:Str}{st:Stmt}{f:Aa}{oc:Ab}{od an:Option Aa}{osl:Array (Option Ab)}{kV doc pm cdv ct:Ab}(l:K.lookup f=some ⟨oc,od,.func<|PySem.W.fnOf x qual (qF st) (zR st) (zc st) .none kV doc pm an cdv ct,osl⟩)(c:PySem.W.codeIn K cdv qual=true)(k:PySem.W.keepIn K (.ref f)=true):Fun K x qual st f (PySem.W.fnOf x qual (qF st) (zR st) (zc st) .none kV doc pm an cdv ct):=⟨⟨oc,od,kV,doc,pm,an,cdv,ct,osl,rfl,l,c⟩,k⟩
end
def z0u{A:Around}{k:Nat}(hr:Room k A):A.units+1 < cLine:=Nat.lt_of_le_of_lt (Nat.add_le_add_left (by decide:1<=64) _) hr.units
def zF{n:Nat}(h:n<=1000):n < sizeLine:=Nat.lt_of_le_of_lt h (by decide)
section
variable {X:Cx}
def pv(i:Nat){x:Str}{pos:Pos}(hN:autoParam (X.N[i]?=some x) aR._auto_1)(hv:Vis X.env.scope x:=by first|exact Or.inl rfl|exact Or.inr (Or.inl rfl)|exact Or.inr (Or.inr rfl))(hd:autoParam ((x == ("__debug__":Str))=false) aR._auto_2)(hcd:autoParam ((x == ("__classdict__":Str))=false) aR._auto_2):PE X (.Name x pos) (tVar i):=z7w hN hv hd hcd
def pvX(i:Nat){x:Str}{pos:Pos}(hN:autoParam (X.N[i]?=some x) aR._auto_1)(hv:Vis X.env.scope x:=by first|exact Or.inl rfl|exact Or.inr (Or.inl rfl)|exact Or.inr (Or.inr rfl))(hd:autoParam ((x == ("__debug__":Str))=false) aR._auto_2)(hcd:autoParam ((x == ("__classdict__":Str))=false) aR._auto_2):PE X (.Name x pos) (z39 i):=(z7w hN hv hd hcd).x
def z5C:Zs X (.builtin "len") (fun xs H Q=>∃a kvs,xs=[V.ref a]/\H a=some (.dK kvs)/\Q (.int kvs.length) H):=by
 intro vY s σ H xs us Q I r h;obtain⟨a,kvs,rfl,ha,q⟩:=h;obtain⟨u,rfl,ru⟩:=Js r;cases ru;exact zbY I (.inl ha) fun t s' I'=>⟨.int kvs.length,H,I',⟨t,rfl⟩,q⟩
end
def iteF{A B:Prop}(h:B):if false=true then A else B:=by
 rw[ky ke];exact h
def iteT{A B:Prop}(h:A):if true=true then A else B:=by
 rw[kz rfl];exact h
def ite2{c A B:Prop}[Decidable c](h1:c->A)(h2:¬c->B):if c then A else B:=by
 by_cases h:c
 ·rw[kz h];exact h1 h
 ·rw[ky h];exact h2 h
def Same(H H':Hp):Prop:=∀b o,H b=some o->H' b=some o
def Same.refl(H:Hp):Same H H:=fun _ _ h=>h
def Same.trans{H H1 H2:Hp}(a:Same H H1)(b:Same H1 H2):Same H H2:=fun c o h=>b c o (a c o h)
def Same.free{H H':Hp}(e:Same H H'){l:Aa}(h:H' l=Option.none):H l=Option.none:=by
 cases q:H l with
|none=>rfl
|some o=>
  rw[e l o q] at h;cases h
def Same.seq{K:ku}{H H':Hp}{a:Aa}{xs:List V}(e:Same H H')(h:SqL K H a xs):SqL K H' a xs:=by
 rcases h with (h|⟨o,h⟩)|h
 ·exact .inl (.inl<|e _ _ h)
 ·exact .inl (.inr ⟨o,e _ _ h⟩)
 ·exact .inr h
end L2
set_option maxRecDepth 100000
namespace L2
section
variable {X:Cx}{e1 e2 e3:Expr}{t1 t2 t3:TE}
def pa1(h1:PE X e1 t1)(s1:starEach [e1] X.env=(false,eval e1 X.env)::starEach [] X.env:=by rfl):PA X [e1] (jg t1 tNil):=zf h1 qC s1
def pa2(h1:PE X e1 t1)(h2:PE X e2 t2)(s1:starEach [e1,e2] X.env=(false,eval e1 X.env)::starEach [e2] X.env:=by rfl)(s2:starEach [e2] X.env=(false,eval e2 X.env)::starEach [] X.env:=by rfl):PA X [e1,e2] (jg t1<|jg t2 tNil):=(zf h1 (zf h2 qC s2) s1)
def pa3(h1:PE X e1 t1)(h2:PE X e2 t2)(h3:PE X e3 t3)(s1:starEach [e1,e2,e3] X.env=(false,eval e1 X.env)::starEach [e2,e3] X.env:=by rfl)(s2:starEach [e2,e3] X.env=(false,eval e2 X.env)::starEach [e3] X.env:=by rfl)(s3:starEach [e3] X.env=(false,eval e3 X.env)::starEach [] X.env:=by rfl):PA X [e1,e2,e3] (jg t1<|jg t2<|jg t3 tNil):=(zf h1 (zf h2 (zf h3 qC s3) s2) s1)
def zM(i:Nat){x:Str}{e:Expr}{te:TE}{pos pos':Pos}(hN:X.N.Nodup)(he:PE X e te)(hi:X.N[i]?=some x:=by rfl)(hx:Loc X.env.scope x:=by exact Or.inl rfl)(hs:swapsWith e (some<|.Name x pos') pos.line X.env=pure false:=by rfl)(hf:X.fn x=true\/X.env.scope.names.lookup x=some .local:=by first|exact .inl rfl|exact .inr rfl|assumption):PS X (.Assign [.Name x pos'] e pos) (tAsg te<|Qm i):=jR hN hi hx he hs hf
def zL(i:Nat){x:Str}{pos:Pos}(hN:X.N.Nodup)(hi:X.N[i]?=some x:=by rfl)(hx:Loc X.env.scope x:=by exact Or.inl rfl)(hf:X.fn x=true\/X.env.scope.names.lookup x=some .local:=by first|exact .inl rfl|exact .inr rfl|assumption):PG X (.Name x pos) (Qm i):=ZB hN hi hx hf
def zG{a b:Expr}{ta tb:TE}{pos:Pos}{r:R2}(hr:IxR X r)(ha:PE X a ta)(hb:PE X b tb)(hs:z5K b:=by exact fun _ _=>rfl):PE X (.Subscript a b pos) (tOp r ta tb):=zbt hr ha hb hs
end
end L2
set_option genInjectivity false
namespace L2
def z13{names:List (Str × NameKind)}{k:NameKind}(h:∀y∈names,y.2≠k)(x:Str):names.lookup x≠some k:=fun e=>h _ (vc e) rfl
def z3d{scope:Scope}{env:Env}(h:∀y∈scope.names,y.2≠.free):relabel scope env=scope:=by
 unfold relabel;rw[map_eq_self (l:=scope.names) (fun x hx=>by
  obtain⟨n,k⟩:=x;have:(k == NameKind.free)=false:=by simpa using h _ hx
  simp[this])]
section
variable {X:Cx}
def z2l(i:Nat)(te:TE):TS:=fun D σ H=>te σ H fun v H1=>D.nx (σ.set i<|some v) H1
end
def Inv.turned2{X:Cx}{vY:List (Aa × Obj)}{σ:St}{H:Hp}{s:Ac}{h':Heap}{t':Nat}{e it:Aa}{xs:List V}(I:Inv X vY σ H s)(k:∀b o,b≠e->b≠it->s.heap.get? b=some o->h'.get? b=some o)(there:∀b∈[e,it],∃o,h'.get? b=some o)(fe:FpOk X vY H e)(fi:FpOk X vY H it)(new:qq X.prog X.w (upd H s.heap.objs.size<|.tup xs) h' s.heap.objs.size (.tup xs)):
  Inv X vY σ (upd H s.heap.objs.size<|.tup xs) {s with heap:=h',toks:=t'}:=by
 have hn:=I.fresh;have nit:∀b u,H b=some u->b≠e/\b≠it:=fun b u q=>⟨(fun z=>by rw[z,fe.1] at q;cases q),(fun z=>by rw[z,fi.1] at q;cases q)⟩
 have hm:∀{b:Aa},b∉[e,it]->b≠e/\b≠it:=fun {b} hb=>⟨fun z=>hb (by simp[z]),fun z=>hb<|by simp[z]⟩
 refine I.step (g':=s.gens) (d':=s.drawn) (ch:=[e,it]) (fun b hb=>?_) (fun b o _ _ hc q _=>k b o (hm hc).1 (hm hc).2 q) (fun b o _ _ hc q _=>⟨o.slots,k b o (hm hc).1 (hm hc).2 q⟩) (fun b o _ q n=>?_)
  (fun b o hc q=>⟨o,k b o (hm hc).1 (hm hc).2 q⟩) (fun b xs q=>by rw[zg<|zd q hn];exact q) (fun b o u q=>by rw[zg<|zd q hn];exact q) (fun b ps q=>⟨#[],by rw[zg<|zd q hn,q];simp⟩) (fun m hm'=>?_) (fun b u q=>?_) I.bare
 ·rcases kE.mp hb with z|z
  ·subst z;exact⟨fe.2.2.2.1,fe.2.1,fe.2.2.2.2.1,fe.2.2.2.2.2⟩
  ·have z:b=it:=by simpa using z
   subst z;exact⟨fi.2.2.2.1,fi.2.1,fi.2.2.2.2.1,fi.2.2.2.2.2⟩
 ·rw[zg<|vn<|vf q];exact n
 ·obtain⟨o,es,ep,ho,r⟩:=hm';exact⟨o,es,ep,k _ o (Ne.symm fe.2.1) (Ne.symm fi.2.1) ho,r⟩
 ·by_cases hb:b=s.heap.objs.size
  ·subst hb;rw[z7] at q;cases q;exact new
  ·rw[zg hb] at q;refine (I.hok b u q).stay (fun c v hc z=>?_) (fun c z=>by rw[zg<|zd z hn];exact z) fun c xs z=>by rw[zg<|zd z hn];exact z
   rcases hc with y|y
   ·subst y;exact k c v (nit c u q).1 (nit c u q).2 z
   ·exact k c v (nit c _ y).1 (nit c _ y).2 z
noncomputable def Ite(K:ku)(a:Aa):It:=
 ⟨fun i H=>∃xs x,SqL K H a xs/\xs[i]?=some x,fun i H x H'=>∃p y,x=.ref p/\H p=none/\H'=upd H p (.tup [.int i,y])/\∀xs,SqL K H a xs->xs[i]?=some y,fun i H=>∃xs,SqL K H a xs/\xs.length<=i⟩
def z3R{P:Program}{w:World}{K:ku}{elts:List Expr}{x1}{pos:Pos}(a e it:Aa)(hei:e≠it):Turn P w K (.Tuple elts x1 pos) (Ite K a) [e,it] e (fun i h=>(∃old,IsEnum h e it i old)/\h.IsListIter it a i) where
 mem:=by simp
 obj:=fun i h st b hb=>by
  rcases kE.mp hb with z|z
  ·subst z;obtain⟨old,q⟩:=st.1;exact⟨_,q,fun v y=>by cases y⟩
  ·have z:b=it:=by simpa using z
   subst z;obtain⟨o,q,c,d⟩:=st.2;exact⟨o,q,fun v z=>by rw[d] at z;cases z⟩
 keep:=fun i h h' st k=>⟨let ⟨old,q⟩:=st.1;⟨old,k e (by simp) _ q⟩,st.2.at fun o q=>k it (by simp) o q⟩
 item:=by
  intro X hP hw hK hc i vY s σ H E I hf st hg;subst hP hw hK;obtain⟨xs,x,hq,hx⟩:=hg;obtain⟨its,rv,p,hz⟩:=I.list hq;obtain⟨u,hu,ru⟩:=rv.get hx;obtain⟨⟨old,he⟩,hit⟩:=st;have fe:=hf e (by simp);have fi:=hf it (by simp);refine wpAny_pyNext_enum_item he hit p.isList (x:=u) (by simpa using hu) hei fun h' ho hit' hT hsz hk=>?_
  refine⟨_,rfl,?_⟩;have new:qq X.prog X.w (upd H s.heap.objs.size<|.tup [.int i,x]) h' s.heap.objs.size (.tup [.int i,x]):=⟨vX,[.int i s.toks,u],.cons ⟨_,rfl⟩<|.cons ru .nil,_,hT,rfl,_,rfl⟩
  obtain⟨oi,ei,_⟩:=id hit';have I1:Inv X vY σ (upd H s.heap.objs.size<|.tup [.int i,x]) {s with heap:=h',toks:=s.toks+1}:=I.turned2 hk (fun b hb=>by
   rcases kE.mp hb with z|z
   ·subst z;exact⟨_,ho⟩
   ·have z:b=it:=by simpa using z
    subst z;exact⟨_,ei⟩) fe fi new
  have ne1:e≠s.heap.objs.size:=vn (vf he);have ne2:it≠s.heap.objs.size:=by obtain⟨o2,e2,_⟩:=hit;exact vn (vf e2)
  refine wpAny_letOwnedTupleGo_enum (s:={s with heap:=h',toks:=s.toks+1}) ho fun h2 he2 hs2=>?_
  have he2':IsEnum h2 e it (((i+1:Nat)):Int) u:=by simpa using he2
  refine⟨.ref s.heap.objs.size,_,I1.turned (t':=s.toks+1) (it:=e) (fun b o hb q=>(hs2.2 b hb).trans q) (by rw[zg ne1];exact fe.1) fe.2.1 fe.2.2.2.1 fe.2.2.2.2.1 fe.2.2.2.2.2,rfl,⟨_,x,rfl,I.fresh,rfl,fun ys hy=>by rw[I.list_inj hy hq];exact hx⟩,⟨⟨u,he2'⟩,hit'.at fun o q=>(hs2.2 it hei.symm).trans q⟩,fun b hb=>?_⟩;rcases kE.mp hb with z|z
  ·subst z;rw[zg ne1];exact fe.1
  ·have z:b=it:=by simpa using z
   subst z;rw[zg ne2];exact fi.1
 done:=by
  intro X hP hw hK hc i vY s σ H E I hf st hg;subst hP hw hK;obtain⟨xs,hq,hx⟩:=hg;obtain⟨its,rv,p,hz⟩:=I.list hq;obtain⟨⟨old,he⟩,hit⟩:=st;obtain⟨f0,f1,f2,f3,f4,f5⟩:=hf it (by simp);have hl:=rv.length;exact wpAny_pyNext_enum_end (I.ok.hd hc) he hit p.isList (by simp;lia) fun h' eb=>⟨rfl,I.turned (t':=s.toks) (fun b o hb e=>eb b o hb e) f0 f1 f3 f4 f5⟩
 self:=fun _ _ _ _ _ st h=>let ⟨old,he⟩:=st.1;wpAny_pyIter_enum he h
section
variable {X:Cx}
def zbF(K:ku)(ta:TA):TI:=fun σ H R=>ta σ H fun vs H1=>∃a,vs=[.ref a]/\(∃xs,SqL K H1 a xs)/\R (Ite K a) H1
def z0a{a:Expr}{ta:TA}{p pos:Pos}{elts:List Expr}{x1}{tp:Pos}(hg:Gl X "enumerate")(hm:X.mg "enumerate"=none)(ha:PA X [a] ta)(hs:autoParam (starEach [a] X.env=[(false,eval a X.env)]) aR._auto_1):PI X (.Tuple elts x1 tp) (.Call (.Name "enumerate" p) [a] [] pos) (zbF X.K ta):=by
 intro vY s σ H R I h;refine Call_ (Je I hg hm boot_enumerate<|vK (thn (ha pos vY s σ H _ I h) fun us s1 ⟨vs,H1,I1,r1,q1⟩=>?_) hs rfl);obtain⟨l,e,⟨xs,hq⟩,q⟩:=q1;subst e;cases r1 with
|cons r rr=>
  cases rr;cases r;obtain⟨its,rv,p,hz⟩:=I1.list hq;refine call_enumerate_list p.isList fun h' he hit hsz hk=>?_
  refine wpAny_pyIter_enum (s:={s1 with heap:=h'}) he ?_;have I2:Inv X vY σ H1 {s1 with heap:=h'}:=I1.kept (t':=s1.toks) hk;have n0:H1 s1.heap.objs.size=none:=I1.fresh;have n1:H1 (s1.heap.objs.size+1)=none:=I1.hok.fresh (Nat.le_succ _);refine⟨s1.heap.objs.size+1,[s1.heap.objs.size+1,s1.heap.objs.size],_,_,H1,rfl,I2,z3R l _ _<|Nat.succ_ne_self _,⟨⟨_,he⟩,hit⟩,fun b hb=>?_,q⟩;rcases kE.mp hb with z|z
  ·subst z;exact I1.fpOk (Nat.le_succ _) n1
  ·have z:b=s1.heap.objs.size:=by simpa using z
   subst z;exact I1.fpOk (kg _) n0
end
def QO{K:ku}{a:Aa}{xs:List V}{g:TG}{tb:TS}{D:Ends}{σ:St}{H:Hp}(Pv:Nat->St->Hp->Prop)(h0:Pv 0 σ H)(hl:∀i σ H,i<=xs.length->Pv i σ H->SqL K H a xs)(hs:∀(i:Nat) x σ H p,xs[i]?=some x->Pv i σ H->H p=none->g (.ref p) σ (upd H p<|.tup [.int i,x]) fun σ2 H2=>tb {D with nx:=Pv (i+1),ct:=Pv (i+1),bk:=D.nx} σ2 H2)(hd:∀σ H,Pv xs.length σ H->D.nx σ H):
  ∃W:Nat->Nat->St->Hp->Prop,(∃m,W 0 m σ H)/\∀i m σ H,W i m σ H->
   ((Ite K a).stop i H/\D.nx σ H)\/((Ite K a).go i H/\∃N:St->Hp->Prop,(∀σ' H',N σ' H'->∃m',m' < m/\W (i+1) m' σ' H')/\∀x H',(Ite K a).yld i H x H'->g x σ H' fun σ2 H2=>tb {D with nx:=N,ct:=N,bk:=D.nx} σ2 H2):=by
 refine⟨fun i m σ H=>m=xs.length - i/\i<=xs.length/\Pv i σ H,⟨xs.length,by simp,vj _,h0⟩,?_⟩;rintro i m σ H ⟨rfl,hi,p⟩;have q:=hl i σ H hi p;by_cases hlt:i < xs.length
 ·refine .inr ⟨⟨xs,xs[i],q,by simp[hlt]⟩,Pv (i+1),fun σ' H' p'=>⟨xs.length - (i+1),by lia,rfl,hlt,p'⟩,fun x H' y=>?_⟩;obtain⟨p',y',rfl,hn,rfl,y⟩:=y;exact hs i y' σ _ p' (y xs q) p hn
 ·have e:i=xs.length:=by lia
  subst e;exact .inl ⟨⟨xs,q,kg _⟩,hd σ H p⟩
section
variable {X:Cx}
inductive rS0(f:Str->V)(x:V)(vs:List V)(H:Hp)(Q:VK):Prop
|mk (z:_):x=.str z->vs=[]->Q (f z) H->rS0 f x vs H Q
def z3l:MtM X "str.isascii" (rS0 fun z=>.bl<|Txt.isascii z):=by
 intro vY s σ H x vs v us Q I rx rv h;obtain⟨z,rfl,rfl,q⟩:=h;obtain⟨t,rfl⟩:=rx;cases rv;exact SC.isascii ⟨.bl _,H,I,rfl,q⟩
def z3m:MtM X "str.isalpha" (rS0 fun z=>.bl<|Txt.isalpha z):=by
 intro vY s σ H x vs v us Q I rx rv h;obtain⟨z,rfl,rfl,q⟩:=h;obtain⟨t,rfl⟩:=rx;cases rv;exact SC.isalpha ⟨.bl _,H,I,rfl,q⟩
def z3k:MtM X "str.islower" (rS0 fun z=>.bl<|Txt.islower z):=by
 intro vY s σ H x vs v us Q I rx rv h;obtain⟨z,rfl,rfl,q⟩:=h;obtain⟨t,rfl⟩:=rx;cases rv;exact SC.islower ⟨.bl _,H,I,rfl,q⟩
inductive FmtR:V->Str->Prop where
|int (i:Int) (h:i.natAbs.log2 < 1920):FmtR (.int i) (toString i)
|str (z:Str) (h:z.length<=sizeLine):FmtR (.str z) z
|bl (b:Bool):FmtR (.bl b) (if b then "True" else "False")
|non:FmtR .non "None"
def tFmt(t:TE):TE:=fun σ H Q=>t σ H fun x H1=>∃y,FmtR x y/\Q (.str y) H1
def za2{value:Expr}{pos:Pos}{t:TE}(h:PE X value t):PE X (.FormattedValue value (-1) none pos) (tFmt t):=by
 intro vY s σ H Q I hq;refine wpAny_FormattedValue_plain (thn (h vY s σ H _ I hq) fun v s1 zz=>?_);obtain⟨x,H1,I1,r1,y,e,q⟩:=zz;cases e with
|int i hi=>
  obtain⟨t,rfl⟩:=r1;exact wpAny_formatField_int hi ⟨.str _,H1,I1.tok _,⟨_,rfl⟩,q⟩
|str z hz=>
  obtain⟨t,rfl⟩:=r1;exact PyProof.Rows.formatField_str (fun t' k=>⟨.str _,H1,I1.tok _,⟨_,rfl⟩,q⟩) hz
|bl b=>
  cases r1;exact wpAny_formatField_bool ⟨.str _,H1,I1.tok _,⟨_,rfl⟩,q⟩
|non=>
  cases r1;exact wpAny_formatField_none ⟨.str _,H1,I1.tok _,⟨_,rfl⟩,q⟩
def z6b{v:Expr}{pos:Pos}{t:TE}(h:PE X v t):PE X (.JoinedStr [v] pos) t:=fun vY s σ H Q I hq=>wpAny_JoinedStr_one (h vY s σ H Q I hq)
def zZ:Zs X (.builtin "isinstance") (fun xs H Q=>∃x T t b,xs=[x,.ty T]/\TyOf X.K H x t/\PySem.W.kitOne X.K t (.type T)=some b/\Q (.bl b) H):=by
 intro vY s σ H xs us Q I r h;obtain⟨x,T,t,b,rfl,ty,e,q⟩:=h;obtain⟨u,u2,rfl,ru,r2⟩:=z7N r;cases r2;exact z4V I ru ty e fun tk=>⟨.bl b,H,I.tok tk,rfl,q⟩
end
def KTab(P:Params)(K:ku)(d:Aa)(tab:List (Str × V)):Prop:=
 ∃es n,K.lookup d=some ⟨.type "dict",none,.dict es n,#[]⟩/\PySem.W.KeysLit P es.toList/\(d == sysModules)=false/\Paired (fun (p:Str × V) (e:DictEntry)=>(∃t,e.key=.str p.1 t)/\RelV p.2 e.val) tab es.toList
def z16{x:Str}:∀{tab:List (Str × V)}{es:List DictEntry},Paired (fun (p:Str × V) (e:DictEntry)=>(∃t,e.key=.str p.1 t)/\RelV p.2 e.val) tab es->
  RelO (tab.lookup x) ((es.find? fun e=>Value.isStrOf x e.key).map (·.val))
|_,_,.nil=>trivial
|(k,v)::tab,e::es,.cons ⟨⟨t,hk⟩,hv⟩ r=>by
  have ih:=z16 (x:=x) r;by_cases hx:x=k
  ·subst hx;have h1:((x,v)::tab).lookup x=some v:=by simp[List.lookup]
   have h2:(e::es).find? (fun e=>Value.isStrOf x e.key)=some e:=by
    rw[vP,hk];simp[Value.isStrOf]
   rw[h1,h2];exact hv
  ·have h1:((k,v)::tab).lookup x=tab.lookup x:=by
    rw[List.lookup_cons];have:(x == k)=false:=by simpa using hx
    rw[this]
   have h2:(e::es).find? (fun e=>Value.isStrOf x e.key)=es.find? (fun e=>Value.isStrOf x e.key):=by
    rw[vP,hk];have:Value.isStrOf x (Value.str k t)=false:=by simpa [Value.isStrOf] using fun z=>hx z.symm
    rw[this]
   rw[h1,h2];exact ih
section
variable {X:Cx}
def z0p{P:Params}{K:ku}{prog:Program}{w:World}{h:Heap}{d:Aa}{tab:List (Str × V)}(hP:P=w.params)(t:KTab P K d tab)(kin:K.In h):
  ∃f,h.MapOf (strKind prog w) d f/\(d == sysModules)=false/\∀x,RelO (tab.lookup x) (f x):=by
 subst hP;obtain⟨es,n,hl,hk,hd,hp⟩:=t;refine⟨_,PySem.W.mapOf_K (prog:=prog) kin hl hk,hd,fun x=>?_⟩;have q:=z16 (x:=x) hp;show RelO _ (findBy Value.isStrOf es x);unfold findBy;rw[<-Array.find?_toList];exact q
def zbf(tab:List (Str × V))(ty:TE):TE:=fun σ H Q=>ty σ H fun y H1=>∃x v,y=.str x/\tab.lookup x=some v/\Q v H1
def z4q{nm:Str}{i:Expr}{p pos:Pos}{d:Aa}{tab:List (Str × V)}{ty:TE}(T:KTab X.w.params X.K d tab)(hg:Gl X nm)(hm:X.mg nm=some (.ref d))(hi:PE X i ty)(hs:NoSl i)(hd:autoParam ((nm == ("__debug__":Str))=false) aR._auto_2):
  PE X (.Subscript (.Name nm p) i pos) (zbf tab ty):=by
 intro vY s σ H Q I h;refine z1B PySem.F.slot_dict_getitem.lookup hs (ZD I hg hm (thn (hi vY s σ H _ I h) fun iv s2 ⟨y,H2,I2,ry,x,v,ex,l,q⟩=>?_) hd);subst ex;obtain⟨t,rfl⟩:=ry;obtain⟨f,mo,_,hf⟩:=z0p (prog:=X.prog) (w:=X.w) rfl T I2.kIn;have hf:=hf x;rw[l] at hf;obtain⟨w',e',rw'⟩:=RelO.some_of hf;exact⟨mo.typeIs,wpAny_getItem_of (strKind_is X.prog X.w x t) mo e' ⟨v,H2,I2.tok _,rw',q⟩⟩
def tKIn(tab:List (Str × V))(ty:TE):TE:=fun σ H Q=>ty σ H fun y H1=>∃x,y=.str x/\Q (.bl (tab.lookup x).isSome) H1
def za3{nm:Str}{i:Expr}{p:Pos}{d:Aa}{tab:List (Str × V)}{ty:TE}(T:KTab X.w.params X.K d tab)(hg:Gl X nm)(hm:X.mg nm=some (.ref d))(hi:PE X i ty)(hd:autoParam ((nm == ("__debug__":Str))=false) aR._auto_2):
  PC X .In i (.Name nm p) (tKIn tab ty):=by
 intro vY s σ H Q I h;refine thn (hi vY s σ H _ I h) fun iv s1 ⟨y,H1,I1,ry,x,ex,q⟩=>ZD I1 hg hm ?_ hd
 subst ex;obtain⟨t,rfl⟩:=ry;obtain⟨f,mo,lo,hf⟩:=z0p (prog:=X.prog) (w:=X.w) rfl T I1.kIn;refine wpAny_in_of (strKind_is X.prog X.w x t) lo mo ⟨.bl _,H1,I1.tok _,rfl,?_⟩;rw[<-RelO.isSome_eq (hf x)];exact q
def z9B(X:Cx)(i:Nat)(t:TA):TE:=fun σ H Q=>∃(f:Aa)(fd:FuncData)(ps:List Str)(sp:Sp)(k:Nat),σ[i]?=some (some<|.ref f)/\PySem.W.keepIn X.K (.ref f)=true/\FnOk X.prog X.w X.K X.mg X.base CX0 k f fd ps sp/\Room k X.A/\Zt X.K fd ps []/\
 t σ H fun vs H1=>sp vs H1 Q E0
def z6i{i:Nat}{x:Str}{p pos:Pos}{e:Expr}{es:List Expr}{t:TA}(hv:PE X (.Name x p) (tVar i))(ha:PA X (e::es) t)(he:autoParam (starEach (e::es) X.env=(false,eval e X.env)::starEach es X.env) aR._auto_1)(hpl:autoParam ((backTo pos<|starEach es X.env).any (·.1)=false) aR._auto_1):
  PE X (.Call (.Name x p) (e::es) [] pos) (z9B X i t):=by
 intro vY s σ H Q I h;obtain⟨f,fd,ps,sp,k,hσ,hk,F,hr,hb,h⟩:=h;refine vR (thn (hv vY s σ H (fun v H1=>v=.ref f/\H1=H) I<|z5P hσ ⟨rfl,rfl⟩) fun u s1 zz=>?_);obtain⟨v,H1,I1,r1,e1,e2⟩:=zz;subst e1;subst e2;cases r1;refine PySem.W.callWith_K (h₀:=X.base) I1.ok.mod.kin hk (thn (ha pos vY s1 σ _ _ I1 h) fun us s2 ⟨vs,H2,I2,r,q⟩=>⟨I2.kIn,?_⟩) he hpl;exact z2s F hr hb .nil z3i I2 r (by rw[kW];exact q)
inductive rEqE(K:ku)(x:V)(y:V)(H:Hp)(Q:VK):Prop
|mk (p:_) (q:_) (xs:_):x=.ref p->y=.ref q->SqL K H p xs->SqL K H q []->Q (.bl<|decide (xs=[])) H->rEqE K x y H Q
def za6(hu:X.A.units < cLine):OpR X (compareOp .Eq) (rEqE X.K):=by
 intro vY s σ H x y v u Q I rx ry h;obtain⟨p,q,xs,rfl,rfl,h1,h2,hq⟩:=h;cases rx;cases ry;obtain⟨its,r,pl,_⟩:=I.list h1;obtain⟨its2,r2,pl2,_⟩:=I.list h2;cases r2;cases r with
|nil=>
  refine SeqAt.eq_listAt (e:=fun _=>true) pl.isList pl2.isList rfl hu (fun j h1 _=>vd h1<|by simp) ⟨.bl _,H,I,rfl,?_⟩;simpa using hq
|cons a b=>
  refine SeqAt.eq_list_lengthsAt pl.isList pl2.isList (by simp) hu ⟨.bl _,H,I,rfl,?_⟩;simpa using hq
def z0D:∀{as:List Aa}{us:List Ab},Vals (as.map V.ref) us->us=as.map Value.ref:=by
 intro as;induction as with
|nil=>intro us r;cases r;rfl
|cons a r ih=>
  intro us h;cases h with
 |cons x y=>cases x;rw[ih y];rfl
def z7Q(td ty tx:TE):TE:=fun σ H Q=>td σ H fun x H1=>∃a,x=.ref a/\IsD H1 a/\ty σ H1 fun y H2=>tx σ H2 fun z H3=>∃kvs k,H3 a=some (.dK kvs)/\y=kV k/\kvs.length < sizeLine/\
 match valV kvs k with
|some v=>Q v H3
|none=>Q z (upd H3 a<|.dK<|putK kvs k z)
def J4{o e f:Expr}{apos cpos:Pos}{td ty tx:TE}(ho:PE X o td)(he:PE X e ty)(hf:PE X f tx)(m:M2 X o "setdefault" apos e f cpos):PE X (.Call (.Attribute o "setdefault" apos) [e,f] [] cpos) (z7Q td ty tx):=by
 intro vY s σ H Q I h;refine wpAny_Call_method m.base m.few m.line PySem.F.plainAttrs_dict PySem.F.slot_dict_setdefault PySem.F.type_dict_setdefault (thn (ho vY s σ H _ I h) fun u s1 zz=>?_);obtain⟨x,H1,I1,rx,a,ex,d,q1⟩:=zz;subst ex;obtain rfl:u=Value.ref a:=rx;obtain⟨t1,t2,_⟩:=z7C I1 d;refine⟨t1,t2,?_⟩;rw[m.trees];refine vF rfl (Calls.evalArgs_plain (vN (thn (he vY s1 σ H1 _ I1 q1) fun iv s2 ⟨y,H2,I2,ry,q2⟩=>
  vN (thn (hf vY s2 σ H2 _ I2 q2) fun fv s3 ⟨z,H3,I3,rz,kvs,k,ea,ek,hz,q3⟩=>Calls.spliced_nil ?_))))
 subst ek;obtain⟨hl,lo,vs,rel,dd⟩:=z3I I3.hok ea;have lenr:=rel.length;have hargs:argsOk "dict.setdefault" ⟨[.ref a,iv,fv],[]⟩:=PySem.F.args_dict_setdefault_3 _ _ _;show wpAny (model X.prog X.w) X.A (call (.builtin "dict.setdefault") [.ref a,iv,fv]) _ _ _;refine call_meetsIn PySem.F.slot_dict_setdefault dd.typeIs PySem.F.entry_dict_setdefault hargs (kt_meets_setdefault (zX X.prog X.w) a (z19 ry) lo fv) ⟨vs,dd,by lia,fun v hv=>?_,fun hn h' dd' sb=>?_⟩
 ·cases l:valV kvs k with
 |none=>
   have:=rel.val k
   rw[l,hv] at this;exact this.elim
 |some w'=>
   have r:=rel.val k;rw[l,hv] at r;rw[l] at q3;exact⟨w',H3,I3.tok _,r,q3⟩
 ·cases l:valV kvs k with
 |some w'=>
   have r:=rel.val k;rw[l,hn] at r;exact r.elim
 |none=>
   rw[l] at q3;refine⟨z,_,Jk I3 (ob:=.dK (putK kvs k z)) (by rw[ea];exact trivial) sb ?_<|z2U (kr (qm kvs k z) hz) lo (rel.put k rz) dd',rz,q3⟩;obtain⟨ob,_,_,e,_⟩:=dd';exact⟨ob,e⟩
end
def z1q{prog:Program}{w:World}{A:Around}{R:Result->Ac->Prop}{s:Ac}{elt target iter:Expr}{ifs:List Expr}{scope:Scope}{pos:Pos}{it acc:Ab}{env:Env}(I:Nat->Ac->Prop)(turn:∀n s,I n s->wpAny (model prog w) A (pyNext it) (fun r s₁=>match r with
  |none=>R (.ok .next) s₁
  |some v=>wpAny (model prog w) A (letOwnedTupleGo target it v) (fun _ s₁'=>wpAny (model prog w) A (assign target env v) (fun _ s₂=>
     wpAny (model prog w) A (forIn ifs true fun c r=>if r=true then do let ok <-isTrue c env (eval c env);pure (ForInStep.yield ok) else pure (ForInStep.yield r)) (fun ok s₃=>
     if ok=true then wpAny (model prog w) A (eval elt env) (fun x s₃'=>
      wpAny (model prog w) A (call (.builtin "list.append") [acc,x]) (fun _ s₄=>∃m,m < n/\I m s₄) (fun _ _=>False) s₃') (fun _ _=>False) s₃
     else ∃m,m < n/\I m s₃)
     (fun _ _=>False) s₂) (fun _ _=>False) s₁') (fun _ _=>False) s₁) (fun _ _=>False) s)(n:Nat)(h:I n s):codeAny (model prog w) A (.compLoop (.ListComp elt [⟨target,iter,ifs,0⟩] scope pos) 0 it acc env) R s:=by
 refine codeAny_loop rfl I (fun n s hI=>?_) n h;show wpAny _ _ ((compTurn (.ListComp elt [⟨target,iter,ifs,0⟩] scope pos) 0 it acc env).onRaise fun x=>do noteFrame x env;theTreesLotGoes x) _ _ s;refine wpAny_noted ?_;rw[compTurn_list];refine va (wpAny_standAt<|va (vM (turn n s hI) (fun r s₁ h₁=>?_) fun _ _ h'=>h'.elim));cases r with
|none=>exact ve h₁
|some v=>
  refine va (vM h₁ (fun _ s₁' h₁'=>?_) fun _ _ h'=>h'.elim);refine va (vM h₁' (fun _ s₂ h₂=>va (vM h₂ (fun ok s₃ h₃=>?_) fun _ _ h'=>h'.elim)) fun _ _ h'=>h'.elim);cases ok with
 |true=>
   rw[kz rfl] at h₃ ⊢
   exact va (va (vM h₃ (fun x s₃' h₃'=>va (vM h₃' (fun _ s₄ h₄=>ve<|ve ⟨rfl,h₄⟩) fun _ _ h'=>h'.elim)) fun _ _ h'=>h'.elim))
 |false=>
   rw[ky ke] at h₃ ⊢
   exact va (ve<|ve ⟨rfl,h₃⟩)
noncomputable abbrev zt(X:Cx)(N:List Str)(scope:Scope)(cl:List (Str × Aa))(s:Ac)(H:Hp)(fp:List Aa)(C:Aa):Cx where
 prog:=X.prog
 w:=X.w
 K:=X.K
 mg:=X.mg
 base:=X.base
 A:=X.A
 N:=N
 s₀:=s
 H₀:=H
 env:=compEnvC scope cl C X.env
 vZ:=X.stack
 stack:=X.stack
 ex:=fp
 fn:=fun _=>false
 calm:=true
 pn:=[]
 xe:=fun _ _=>False
structure zT(X:Cx)(N:List Str)(nt:Nat)(ix:List Nat)(scope:Scope)(cl:List (Str × Aa)):Prop where
 clos:closureFor scope X.env=pure cl
 nocell:∀y∈scope.names,y.2≠.cell
 kind:scope.kind=.function
 names:∀y∈scope.names,y.2=.local->scope.names.lookup y.1=some .local
 sub:∀x c,cl.lookup x=some c->X.env.cells.lookup x=some c
 has:∀x,((relabel scope X.env).names.lookup x=some .cell\/(relabel scope X.env).names.lookup x=some .free)->∃c,cl.lookup x=some c
 len:N.length=nt+ix.length
 free:∀j x,N[nt+j]?=some x->∃i,ix[j]?=some i/\X.N[i]?=some x/\X.env.kindOf x=some .cell/\(relabel scope X.env).names.lookup x=some .cell/\∀c,X.env.cells.lookup x=some c->cl.lookup x=some c
noncomputable def qO(nt:Nat)(ix:List Nat)(σ:St):St:=List.replicate nt none++ix.map fun i=>(σ[i]?).join
def PTs(X:Cx)(ifs:List Expr)(tc:TT):Prop:=
 ∀(vY:List (Aa × Obj))(s:Ac)(σ:St)(H:Hp)(Q:Bool->Hp->Prop),Inv X vY σ H s->tc σ H Q->
  wpAny (model X.prog X.w) X.A (forIn ifs true fun c r=>if r=true then do let ok <-isTrue c X.env (eval c X.env);pure (ForInStep.yield ok) else pure (ForInStep.yield r)) (TP X vY σ Q) X.xe s
def tAll:TT:=fun _ H Q=>Q true H
def qr{X:Cx}:PTs X [] tAll:=fun vY s σ H Q I h=>wpAny_tests_nil ⟨H,I,h⟩
def z1O{X:Cx}{c:Expr}{tc:TT}(h:PT X c tc):PTs X [c] tc:=fun vY s σ H Q I hq=>wpAny_tests_one (h vY s σ H Q I hq)
abbrev cqS(tc:TT)(te:TE)(l:Aa)(W:Nat->Nat->List V->St->Hp->Prop)(i m:Nat)(ys:List V):St->Hp->Prop:=fun σ2 H4=>tc σ2 H4 fun b H5=>if b=true then te σ2 H5 fun v H6=>H6 l=some (.lst ys)/\ys.length < sizeLine/\∃m',m' < m/\W (i+1) m' (ys++[v]) σ2 (upd H6 l<|.lst (ys++[v])) else ∃m',m' < m/\W (i+1) m' ys σ2 H5
def z7r(nt:Nat)(ix:List Nat)(wi:TI)(g:TG)(tc:TT)(te:TE):TE:=fun σ H Q=>wi σ H fun J H1=>∀l,H1 l=none->∃W:Nat->Nat->List V->St->Hp->Prop,(∃m,W 0 m [] (qO nt ix σ)<|upd H1 l<|.lst [])/\∀i m ys σ' H2,W i m ys σ' H2->
 (J.stop i H2/\Q (.ref l) H2)\/(J.go i H2/\∀x H3,J.yld i H2 x H3->g x σ' H3 (cqS tc te l W i m ys))
section
variable {X:Cx}
def ZG{elt iter tg:Expr}{ifs:List Expr}{N:List Str}{nt:Nat}{ix:List Nat}{scope:Scope}{cl:List (Str × Aa)}{pos:Pos}{vY:List (Aa × Obj)}{σ:St}{H:Hp}{s:Ac}{it:Aa}{fp:List Aa}{tn:Nat->Heap->Prop}{J:It}{g:TG}{tc:TT}{te:TE}{Q:VK}{E:Ab->Ac->Prop}{RR:Ab->Aa->Result->Ac->Prop}(hc:X.calm=true)(sc:zT X N nt ix scope cl)(I:Inv X vY σ H s)(T:Turn X.prog X.w X.K tg J fp it tn)(st:tn 0 s.heap)(hf:∀b∈fp,FpOk X vY H b)(hg:∀(s:Ac)(H:Hp)(fp:List Aa)(C:Aa),PG (zt X N scope cl s H fp C) tg g)(ht:∀(s:Ac)(H:Hp)(fp:List Aa)(C:Aa),PTs (zt X N scope cl s H fp C) ifs tc)(he:∀(s:Ac)(H:Hp)(fp:List Aa)(C:Aa),PE (zt X N scope cl s H fp C) elt te)(h:∀l,H l=none->∃W:Nat->Nat->List V->St->Hp->Prop,(∃m,W 0 m [] (qO nt ix σ)<|upd H l<|.lst [])/\∀i m ys σ' H2,W i m ys σ' H2->
   (J.stop i H2/\Q (.ref l) H2)\/(J.go i H2/\∀x H3,J.yld i H2 x H3->g x σ' H3 (cqS tc te l W i m ys)))(hRR:∀D C s' H' m,Inv X vY σ H' s'->s'.heap.Ns C m->C≠X.env.locals->H' C=none->X.s₀.heap.objs.size<=C->(∀x c,X.env.cells.lookup x=some c->c≠C)->(∀p∈X.pn++vY,p.1≠C)->Q (.ref D) H'->RR (.ref D) C (.ok .next) s'):
  wpAny (model X.prog X.w) X.A (newList []) (fun acc s₃=>wpAny (model X.prog X.w) X.A (newFunctionEnv scope X.env.globals cl [] X.env.qual none .none<|some X.env) (fun cenv s₄=>
   codeAny (model X.prog X.w) X.A (.compStart (.ListComp elt [⟨tg,iter,ifs,0⟩] scope pos) 0 (.ref it) acc {cenv with scope:=relabel scope X.env}) (RR acc cenv.locals) s₄) E s₃) E s:=by
 refine vJ ?_;have I3:Inv X vY σ (upd H s.heap.objs.size<|.lst []) {s with heap:=s.heap.push {cls:=.type "list",data:=.seq ([]:List Ab).toArray} }:=I.lnew (ys:=[]) (its:=[]) (t':=s.toks) .nil (vj _);have st3:tn 0 (s.heap.push {cls:=.type "list",data:=.seq ([]:List Ab).toArray}):=T.keep _ _ _ st fun b hb o e=>vb _ e
 have fpl:∀b∈fp,b < s.heap.objs.size:=fun b hb=>by
  obtain⟨o,e,_⟩:=T.obj _ _ st b hb;exact vf e
 obtain⟨W,⟨m0,w0⟩,turn⟩:=h s.heap.objs.size I.fresh;have hf3:∀b∈fp,FpOk X vY (upd H s.heap.objs.size<|.lst []) b:=fun b hb=>⟨by rw[zg<|vn<|fpl b hb];exact (hf b hb).1,(hf b hb).2⟩
 generalize hD:s.heap.objs.size=D at *;generalize hH3:upd H D (HO.lst [])=H3 at *;generalize hs3:({s with heap:=s.heap.push {cls:=.type "list",data:=.seq ([]:List Ab).toArray} }:Ac)=s3 at *;have hsz3:s3.heap.objs.size=D+1:=by rw[<-hs3,<-hD];exact Heap.size_push ..
 have st3':tn 0 s3.heap:=by rw[<-hs3];exact st3
 refine wpAny_newFunctionEnv (s:=s3) sc.nocell (by intro y hy;simp at hy) (fun h1 hns hsb=>?_) sc.kind;generalize hC:s3.heap.objs.size=C at *;have kept:∀b o,s3.heap.get? b=some o->h1.get? b=some o:=fun b o e=>hsb.extBut b o (by rw[<-hC];exact vn (vf e)) (vb _ e)
 show codeAny (model X.prog X.w) X.A (.compStart (.ListComp elt [⟨tg,iter,ifs,0⟩] scope pos) 0 (.ref it) (.ref D)<|compEnvC scope cl C X.env) (RR (.ref D) C) {s3 with heap:=h1,toks:=s3.toks+0};have fpC:∀b∈fp,b≠C:=fun b hb=>vn (kM (fpl b hb)<|by rw[hsz3];exact Nat.le_succ D)
 have cellC:∀x c,cl.lookup x=some c->c≠C:=fun x c e z=>by
  obtain⟨v,q⟩:=I3.cell x c (sc.sub x c e);have:=q.lt
  rw[hC,z] at this;exact vD _ this
 have ok:(zt X N scope cl s3 H3 fp C).Ok:={
  mod:=I.ok.mod,kind:=(show (relabel scope X.env).kind=.function from sc.kind),glob:=I.ok.glob,blt:=I.ok.blt,above:=kY hC
  inj:=fun y z c e e'=>I.ok.inj y z c (sc.sub y c e) (sc.sub z c e')
  has:=fun y hy=>sc.has y hy
  cab:=fun y c e _=>nomatch e
  hd:=fun _=>I.ok.hd hc
  frames:=I.ok.frames
  stk:=.inl rfl
  exf:=fun b hb=>⟨fpC b hb,fun y c e=>(hf3 b hb).2.2.2.2.1 y c<|sc.sub y c e⟩
  bs:=I3.bs
  bsz:=kr I.ok.bsz I3.sz
  noex:=fun b o e hb=>by
   obtain⟨_,_,_,h4,_⟩:=hf3 b hb;rcases h4 with z|z
   ·exact I.ok.noex b o e z
   ·exact vd (kM (vf (I.ok.bs b o e).1) z) (vD _)
  exfs:=fun b hb z=>by
   obtain⟨_,h1,h2,_⟩:=hf3 b hb;rcases kE.mp (I3.stkSub b z) with q|q
   ·exact h1 q
   ·exact h2 q
  funs:=I3.stack
  frf:=I3.stkFree}
 have cellK:∀c v,s3.heap.IsCell c v->h1.IsCell c v:=fun c v ⟨o,ho,hd⟩=>⟨o,kept c o ho,hd⟩
 have I4:Inv (zt X N scope cl s3 H3 fp C) [] (qO nt ix σ) H3 {s3 with heap:=h1,toks:=s3.toks+0}:={
  ok:=ok,os:=rfl,bare:=I3.bare,base:=Un.kept kept
  loc:=⟨_,hns,fun i y v e1 e2 _=>by
   have e2:(qO nt ix σ)[i]?=some (some v):=e2;unfold qO at e2;by_cases hi:i < nt
   ·rw[yg (by simpa using hi),vt,kz hi] at e2;cases e2
   ·obtain⟨j,rfl⟩:∃j,i=nt+j:=⟨i - nt,by lia⟩
    rw[yh (by simp),vk,Ar,vh] at e2;obtain⟨k,hk,hXN,hkind,hrel,hcl⟩:=sc.free j y e1;rw[hk] at e2;have e3:σ[k]?=some (some v):=by
     cases q:σ[k]? with
    |none=>rw[Option.map_some,q] at e2;cases e2
    |some o=>rw[Option.map_some,q] at e2;simpa using e2
    obtain⟨m,_,hl⟩:=I3.loc;obtain⟨u,ru,lk⟩:=hl k y v hXN e3 (.inr<|.inl hkind);refine⟨u,ru,.inr ⟨.inl hrel,?_⟩⟩;rcases lk with ⟨z,_⟩|⟨_,c,hcc,hcell⟩
    ·rw[hkind] at z;cases z
    ·exact⟨c,hcl c hcc,cellK _ _ hcell⟩⟩
  cell:=fun y c e=>let ⟨v,q⟩:=I3.cell y c (sc.sub y c e);⟨v,cellK _ _ q⟩
  free:=I3.hok.fresh (kY hC)
  freeC:=fun y c e=>I3.freeC y c (sc.sub y c e)
  pin:=fun p hp=>vd (show p∈([]:List (Aa × Obj)) from hp) (by simp)
  hok:=I3.hok.kept kept
  len:=by show (qO nt ix σ).length=N.length;rw[sc.len];unfold qO;simp}
 have st4:tn 0 h1:=T.keep _ _ _ st3' fun b hb o e=>kept b o e
 have stat:∀{H':Hp},(∀b∈fp,H' b=none)->∀b∈fp,FpOk (zt X N scope cl s3 H3 fp C) [] H' b:=fun hn b hb=>⟨hn b hb,fpC b hb,ok.exfs b hb,.inl hb,(fun y c e=>(hf3 b hb).2.2.2.2.1 y c<|sc.sub y c e),fun p hp=>vd (show p∈([]:List (Aa × Obj)) from hp)<|by simp⟩
 have loop:codeAny (model X.prog X.w) X.A (.compLoop (.ListComp elt [⟨tg,iter,ifs,0⟩] scope pos) 0 (.ref it) (.ref D)<|compEnvC scope cl C X.env) (RR (.ref D) C) {s3 with heap:=h1,toks:=s3.toks+0}:=by
  refine z1q (fun n s'=>∃i ys σ' H',Inv (zt X N scope cl s3 H3 fp C) [] σ' H' s'/\tn i s'.heap/\(∀b∈fp,H' b=none)/\W i n ys σ' H') ?_ m0 ⟨0,[],_,H3,I4,st4,fun b hb=>(hf3 b hb).1,w0⟩;rintro n s5 ⟨i,ys,σ5,H5,I5,st5,fr5,w5⟩;rcases turn i n ys σ5 H5 w5 with ⟨stop,qn⟩|⟨go,step⟩
  ·refine thn (T.done (zt X N scope cl s3 H3 fp C) rfl rfl rfl rfl i [] s5 σ5 H5 _ I5 (stat fr5) st5 stop) fun r s6 zz=>?_
   obtain⟨hr,I6⟩:=zz;subst hr;obtain⟨m6,n6,_⟩:=I6.loc;refine hRR D C s6 H5 m6 (I3.call' I6.os I6.base I6.hok I6.bare fun b hb=>?_) n6 (As<|by have:=I3.lt;rw[hC] at this;exact this) I6.free (by have:=I3.sz;rw[hC] at this;exact this) (fun y c e z=>?_) (fun p hp z=>?_) qn
   ·obtain⟨_,h1,_,h4,h5,h6⟩:=hf3 b hb;exact⟨h4,h1,h5,h6⟩
   ·obtain⟨v,q⟩:=I3.cell y c e;have:=q.lt
    rw[hC,z] at this;exact vD _ this
   ·have:=vf (I3.pin p hp).1
    rw[hC,z] at this;exact vD _ this
  ·refine thn (T.item (zt X N scope cl s3 H3 fp C) rfl rfl rfl rfl i [] s5 σ5 H5 _ I5 (stat fr5) st5 go) fun r s6 zz=>?_
   obtain⟨u,hr,h6⟩:=zz;subst hr;refine thn h6 fun _ s7 zz=>?_
   obtain⟨v,H7,I7,r7,y7,st7,fr7⟩:=zz;have I7':=I7.pinned (stat fr7) (T.obj _ _ st7);refine thn (hg s3 H3 fp C _ s7 σ5 H7 v u _ I7' r7<|step v H7 y7) fun _ s8 zz=>?_
   obtain⟨σ8,H8,I8,q8⟩:=zz;refine thn (ht s3 H3 fp C _ s8 σ8 H8 _ I8 q8) fun b s9 zz=>?_
   obtain⟨H9,I9,q9⟩:=zz;have again:∀{sE:Ac}{HE:Hp}{ysE:List V}{m':Nat},Inv (zt X N scope cl s3 H3 fp C) ([]++Qv fp s7.heap) σ8 HE sE->m' < n->W (i+1) m' ysE σ8 HE->∃m,m < n/\∃i ys σ' H',Inv (zt X N scope cl s3 H3 fp C) [] σ' H' sE/\tn i sE.heap/\(∀b∈fp,H' b=none)/\W i m ys σ' H':=fun {sE HE ysE m'} IE hm' wE=>by
    refine⟨m',hm',i+1,ysE,σ8,HE,IE.unpinned (vY:=[]),T.keep _ _ _ st7 fun b hb o e=>(IE.pin (b,o)<|kN _<|kN _<|qD hb e).1,fun b hb=>?_,wE⟩;obtain⟨o,e,d⟩:=T.obj _ _ st7 b hb;exact (IE.pin (b,o)<|kN _<|kN _<|qD hb e).2.1
   cases b with
  |false=>
    rw[ky ke] at q9 ⊢
    obtain⟨m',hm',w9⟩:=q9;exact again I9 hm' w9
  |true=>
    rw[kz rfl] at q9 ⊢
    refine thn (he s3 H3 fp C _ s9 σ8 H9 _ I9 q9) fun yv s10 zz=>?_
    obtain⟨y,H10,I10,r10,q10⟩:=zz;obtain⟨hl9,hz9,m',hm',w9⟩:=q10;obtain⟨z9,its,k9,rv9,ll9,e9⟩:=I10.lstM hl9;refine call_meets F.slot_list_append ⟨_,e9,rfl⟩ F.entry_list_append (F.args_list_append_2 _ _) (PySem.list_append D its.toArray k9 yv<|by rw[kF];lia) ⟨e9,?_⟩;have I11:=I10.lset (t':=s10.toks) (its':=its++[yv]) (f:=(·.push yv)) hl9 e9 (by simp) (rv9.append<|.cons r10 .nil) (by rw[km,kG];lia);exact again I11 hm' w9
 exact codeAny_compStart_list loop (T.self _ 0 _ _ _ st4 loop)
def ql{elt iter tg:Expr}{ifs:List Expr}{N:List Str}{nt:Nat}{ix:List Nat}{scope:Scope}{cl:List (Str × Aa)}{pos:Pos}{wi:TI}{g:TG}{tc:TT}{te:TE}(hc:X.calm=true)(sc:zT X N nt ix scope cl)(hi:PI X tg iter wi)(hg:∀(s:Ac)(H:Hp)(fp:List Aa)(C:Aa),PG (zt X N scope cl s H fp C) tg g)(ht:∀(s:Ac)(H:Hp)(fp:List Aa)(C:Aa),PTs (zt X N scope cl s H fp C) ifs tc)(he:∀(s:Ac)(H:Hp)(fp:List Aa)(C:Aa),PE (zt X N scope cl s H fp C) elt te)(hs:∀x,foldedSetIterable iter X.env x=pure x:=by intro _;rfl):
  PE X (.ListComp elt [⟨tg,iter,ifs,0⟩] scope pos) (z7r nt ix wi g tc te):=by
 intro vY s σ H Q I h;rw[eval_ListComp];refine wpAny_comprehension_free (use:=none) rfl hs sc.clos sc.kind sc.names (thn (hi vY s σ H _ I h) fun v s1 h1=>thn h1 fun itv s2 h2=>?_);obtain⟨it,fp,tn,J,H2,e,I2,T,st2,f2,q2⟩:=h2;subst e;refine ZG (RR:=fun acc C=>compPost (model X.prog X.w) X.A X.xe none (EP X vY σ Q) acc C) hc sc I2 T st2 f2 hg ht he q2 ?_;intro D C s' H' m I' n' c1 c2 c3 c4 c5 q';exact⟨m,n',fun h' hs'=>⟨.ref D,H',I'.turned (t':=s'.toks) (it:=C) (fun b o hb e=>(hs'.2 b hb).trans e) c2 c1 (.inr c3) c4 c5,rfl,q'⟩⟩
def jZ{elt iter tg:Expr}{ifs:List Expr}{N:List Str}{nt:Nat}{ix:List Nat}{y:Str}{i:Nat}{py spos:Pos}{scope:Scope}{cl:List (Str × Aa)}{pos:Pos}{wi:TI}{g:TG}{tc:TT}{te:TE}(hc:X.calm=true)(hN:X.N.Nodup)(hy:X.N[i]?=some y)(hl:Loc X.env.scope y)(sc:zT X N nt ix scope cl)(hi:PI X tg iter wi)(hg:∀(s:Ac)(H:Hp)(fp:List Aa)(C:Aa),PG (zt X N scope cl s H fp C) tg g)(ht:∀(s:Ac)(H:Hp)(fp:List Aa)(C:Aa),PTs (zt X N scope cl s H fp C) ifs tc)(he:∀(s:Ac)(H:Hp)(fp:List Aa)(C:Aa),PE (zt X N scope cl s H fp C) elt te)(hsw:autoParam (swapsWith (.ListComp elt [⟨tg,iter,ifs,0⟩] scope pos) (some<|.Name y py) spos.line X.env=pure true) aR._auto_1)(hs:∀x,foldedSetIterable iter X.env x=pure x:=by intro _;rfl)(hf:X.fn y=true\/X.env.scope.names.lookup y=some .local:=by first|exact .inl rfl|exact .inr rfl|assumption):
  PS X (.Assign [.Name y py] (.ListComp elt [⟨tg,iter,ifs,0⟩] scope pos) spos) (z2l i<|z7r nt ix wi g tc te):=by
 intro vY s σ H D I h;rw[exec_Assign_Name_used _ _ _ _ hsw];refine va (wpAny_standAt<|va ?_);show wpAny _ X.A (do let _ <-comprehension (.ListComp elt [⟨tg,iter,ifs,0⟩] scope pos) scope X.env _ (newList []) false (eval iter X.env) (some<|assign (.Name y py) X.env)) _ _ s;refine va (vM (wpAny_comprehension_free (use:=some (assign (.Name y py) X.env)) (Q:=fun _ s'=>SP X vY D .next s') (E:=X.xe) rfl hs sc.clos sc.kind sc.names
  (thn (hi vY s σ H _ I h) fun v s1 h1=>thn h1 fun itv s2 h2=>?_)) (fun _ s' hq=>ve<|ve hq) fun _ _ e=>e)
 obtain⟨it,fp,tn,J,H2,e,I2,T,st2,f2,q2⟩:=h2;subst e;refine ZG (Q:=fun v H1=>D.nx (σ.set i<|some v) H1) (RR:=fun acc C=>compPost (model X.prog X.w) X.A X.xe (some<|assign (.Name y py) X.env) (fun _ s'=>SP X vY D .next s') acc C) hc sc I2 T st2 f2 hg ht he q2 ?_;intro l C s' H' m I' n' c1 c2 c3 c4 c5 q';show wpAny _ X.A (assign (.Name y py) X.env<|.ref l) _ _ _;refine wpAny_assign_Name (QV I' hN hy hl (v:=.ref l) rfl (fun s'' I'' k=>?_) hf);obtain⟨a,sb,ha⟩:=k;have hne:C≠a:=by
  rcases ha with ha|ha
  ·rw[ha];exact c1
  ·exact fun z=>c4 _ _ ha z.symm
 refine⟨m,n'.sameBut sb hne,fun h' hs'=>?_⟩;exact⟨_,H',I''.turned (t':=s''.toks) (it:=C) (fun b o hb e=>(hs'.2 b hb).trans e) c2 c1 (.inr c3) c4 c5,q'⟩
end
def Inv.recast{X:Cx}{vY:List (Aa × Obj)}{σ:St}{H:Hp}{s:Ac}{d:Aa}{u u':HO}(I:Inv X vY σ H s)(e:H d=some u)(nt:∀xs,u≠.tup xs)(nb:∀ps,u≠.tbl ps)(no:∀x,u≠.own x)(hfz:∀o v,X.H₀ d≠some (.frz o v))(ok:qq X.prog X.w (upd H d u') s.heap d u'):Inv X vY σ (upd H d u') s:=by
 have nn:∀b,H b=none->upd H d u' b=none:=fun b h=>by
  rw[zg fun z=>by rw[z,e] at h;cases h];exact h
 refine {I with base:=⟨I.base.keep,I.base.slot,fun b o q n hx=>nn b<|I.base.free b o q n hx,I.base.there,fun b xs q=>?_,fun b o v q=>?_,fun b ps q=>?_⟩,free:=nn _ I.free,freeC:=fun x c q=>nn _<|I.freeC x c q,pin:=fun p hp=>?_,hok:=fun b v q=>?_}
 ·have:=I.base.tups b xs q
  rw[zg fun z=>by rw[z,e] at this;exact nt xs (kC this)];exact this
 ·have:=I.base.frzs b o v q
  rw[zg fun z=>hfz o v<|by rw[<-z];exact q];exact this
 ·obtain⟨m,h⟩:=I.base.tbls b ps q;exact⟨m,by rw[zg fun z=>by rw[z,e] at h;exact nb _ (kC h)];exact h⟩
 ·obtain⟨a,b,c⟩:=I.pin p hp;exact⟨a,nn _ b,c⟩
 ·by_cases hb:b=d
  ·subst hb;rw[z7] at q;cases q;exact ok
  ·rw[zg hb] at q;refine (I.hok b v q).stay (fun _ _ _ z=>z) (fun c z=>?_) fun c xs z=>?_
   ·rw[zg fun y=>by rw[y,e] at z;exact no _ (kC z)];exact z
   ·rw[zg fun y=>by rw[y,e] at z;exact nt _ (kC z)];exact z
def Inv.nofrz{X:Cx}{vY:List (Aa × Obj)}{σ:St}{H:Hp}{s:Ac}{d:Aa}{u:HO}(I:Inv X vY σ H s)(e:H d=some u)(nf:∀o v,u≠.frz o v):∀o v,X.H₀ d≠some (.frz o v):=fun o v q=>by
 have:=I.base.frzs d o v q
 rw[e] at this;exact nf o v (kC this)
def z18{k:Key}{u:Ab}(h:z22 k u=true):RelV (kV k) u:=by
 rcases qo h with ⟨i,t,rfl,rfl⟩|⟨x,t,rfl,rfl⟩
 ·exact⟨t,rfl⟩
 ·exact⟨t,rfl⟩
def KV.get{kvs:List (Key × V)}{vs:List (Key × Ab)}(r:KV kvs vs):∀{i:Nat}{p:Key × V},kvs[i]?=some p->∃v,vs[i]?=some (p.1,v)/\RelV p.2 v:=by
 unfold KV at r;induction r with
|nil=>intro i p h;simp at h
|@cons p q ps qs h t ih=>
  intro i p' hp;cases i with
 |zero=>
   simp at hp
   subst hp;exact⟨q.2,by rw[h.1];rfl,h.2⟩
 |succ i=>
   obtain⟨v,h1,h2⟩:=ih (by simpa using hp);exact⟨v,by simpa using h1,h2⟩
noncomputable def Itd(a:Aa)(o:Obj)(kvs:List (Key × V)):It:=
 ⟨fun i H=>H a=some (.frz o<|.dK kvs)/\i < kvs.length,fun i H x H'=>∃p k v,x=.ref p/\H p=none/\kvs[i]?=some (k,v)/\H'=upd H p (.tup [kV k,v]),fun i H=>H a=some (.frz o<|.dK kvs)/\kvs.length<=i⟩
def z5k:entryFor table "dict_itemiterator.__iter__"=some Builtin.«dict_keyiterator.__iter__»:=
 entryFor_alias (id':="dict_keyiterator.__iter__") (by rw[fastTable_eq_tree];kernel_rfl) (by kernel_rfl) (by kernel_rfl) (by rw[fastTable_eq_tree];kernel_rfl)
def Z8{prog:Program}{w:World}{A:Around}{E:Ab->Ac->Prop}{s:Ac}{it d:Aa}{i n ep:Nat}{ok ov:Ab}{Q:Ab->Ac->Prop}(he:IsItemIter s.heap it d i n ep ok ov)(h:Q (.ref it) s):
  wpAny (model prog w) A (pyIter<|.ref it) Q E s:=by
 have hT:s.TypeIs (.ref it) "dict_itemiterator":=⟨_,he,rfl⟩
 refine wpAny_pyIter_slot hT F.slot_dict_itemiterator_iter (wpAny_call_entry F.slot_dict_itemiterator_iter hT z5k ?_<|F.args_dict_itemiterator_iter_1 _);show wpAny _ _ (ret<|.ref it) _ _ s;exact ve ⟨_,rfl,"dict_itemiterator",_,hT,F.slot_dict_itemiterator_next.lookup,h⟩
def Jw{P:Program}{w:World}{K:ku}{elts:List Expr}{x1}{pos:Pos}(a it:Aa)(o:Obj)(kvs:List (Key × V)):
  Turn P w K (.Tuple elts x1 pos) (Itd a o kvs) [it] it (fun i h=>∃es ep ok ov,o.data=.dict es ep/\IsItemIter h it a i kvs.length ep ok ov) where
 mem:=by simp
 obj:=fun i h st b hb=>by
  have z:b=it:=by simpa using hb
  subst z;obtain⟨es,ep,ok,ov,_,q⟩:=st;exact⟨_,q,fun v y=>by cases y⟩
 keep:=fun i h h' st k=>let ⟨es,ep,ok,ov,d,q⟩:=st;⟨es,ep,ok,ov,d,k it (by simp) _ q⟩
 item:=by
  intro X hP hw hK hc i vY s σ H E I hf st hg;subst hP hw hK;obtain⟨hq,hi⟩:=hg;obtain⟨es,ep,ok,ov,hd,hit⟩:=st;obtain⟨ho,hz,hsy,vs,rel,ob,es',ep',hob,hex,hdat,r3⟩:=(show qq X.prog X.w H s.heap a (.frz o<|.dK kvs) from I.hok a _ hq)
  rw[ho] at hob;cases hob;rw[hd] at hdat;cases hdat;have hm:s.heap.DictAt (zX X.prog X.w) a vs ep:=⟨o,es,ho,hex,hd,r3⟩
  have hlen:kvs.length=vs.length:=Paired.length rel;obtain⟨p,hp⟩:∃p,kvs[i]?=some p:=⟨kvs[i],kL hi⟩
  obtain⟨v,hv,rv⟩:=rel.get hp;have fi:=hf it (by simp);rw[hlen] at hit;refine wpAny_pyNext_items_item hit hm hv fun key h' hkey heo ht hsz hk=>⟨_,rfl,?_⟩
  have rk:RelV (kV p.1) key:=z18 hkey;have new:qq X.prog X.w (upd H s.heap.objs.size<|.tup [kV p.1,p.2]) h' s.heap.objs.size (.tup [kV p.1,p.2]):=⟨vX,[key,v],.cons rk<|.cons rv .nil,_,ht,rfl,_,rfl⟩
  have I1:Inv X vY σ (upd H s.heap.objs.size<|.tup [kV p.1,p.2]) {s with heap:=h',toks:=s.toks}:=I.turned2 (e:=it) (it:=it) (t':=s.toks) (fun b o hb _ e=>hk b o hb e) (fun b hb=>by
   have z:b=it:=by simpa using hb
   subst z;exact⟨_,heo⟩) fi fi new
  have ne1:it≠s.heap.objs.size:=vn (vf hit);refine wpAny_letOwnedTupleGo_items (s:={s with heap:=h'}) heo fun h2 he2 hs2=>?_
  refine⟨.ref s.heap.objs.size,_,I1.turned (t':=s.toks) (it:=it) (fun b o hb q=>(hs2.2 b hb).trans q) (by rw[zg ne1];exact fi.1) fi.2.1 fi.2.2.2.1 fi.2.2.2.2.1 fi.2.2.2.2.2,rfl,⟨_,p.1,p.2,rfl,I.fresh,hp,rfl⟩,⟨es,ep,key,v,hd,by rw[hlen];exact he2⟩,fun b hb=>?_⟩;have z:b=it:=by simpa using hb
  subst z;rw[zg ne1];exact fi.1
 done:=by
  intro X hP hw hK hc i vY s σ H E I hf st hg;subst hP hw hK;obtain⟨hq,hi⟩:=hg;obtain⟨es,ep,ok,ov,hd,hit⟩:=st;obtain⟨ho,hz,hsy,vs,rel,ob,es',ep',hob,hex,hdat,r3⟩:=(show qq X.prog X.w H s.heap a (.frz o<|.dK kvs) from I.hok a _ hq)
  rw[ho] at hob;cases hob;rw[hd] at hdat;cases hdat;have hm:s.heap.DictAt (zX X.prog X.w) a vs ep:=⟨o,es,ho,hex,hd,r3⟩
  have hlen:kvs.length=vs.length:=Paired.length rel;rw[hlen] at hit hi;obtain⟨f0,f1,f2,f3,f4,f5⟩:=hf it (by simp);exact wpAny_pyNext_items_end (I.ok.hd hc) hit hm (by rw[List.getElem?_eq_none_iff];exact hi) fun h' eb=>⟨rfl,I.turned (t':=s.toks) (fun b o hb e=>eb b o hb e) f0 f1 f3 f4 f5⟩
 self:=fun _ _ _ _ _ st h=>let ⟨es,ep,ok,ov,_,q⟩:=st;Z8 q h
section
variable {X:Cx}
def z9z(nt:Nat)(ix:List Nat)(td:TE)(g:TG)(tc:TT)(te:TE):TE:=fun σ H Q=>td σ H fun x H1=>∃a kvs,x=.ref a/\H1 a=some (.dK kvs)/\∀o l,H1 l=none->∃W:Nat->Nat->List V->St->Hp->Prop,(∃m,W 0 m [] (qO nt ix σ)<|upd (upd H1 a<|.frz o<|.dK kvs) l<|.lst [])/\∀i m ys σ' H2,W i m ys σ' H2->
 H2 a=some (.frz o<|.dK kvs)/\(kvs.length<=i->Q (.ref l) (upd H2 a<|.dK kvs))/\(∀p k v,kvs[i]?=some (k,v)->H2 p=none->g (.ref p) σ' (upd H2 p<|.tup [kV k,v]) (cqS tc te l W i m ys))
def z6f{elt o:Expr}{elts:List Expr}{x1}{tp apos cpos:Pos}{ifs:List Expr}{N:List Str}{nt:Nat}{ix:List Nat}{scope:Scope}{cl:List (Str × Aa)}{pos:Pos}{td:TE}{g:TG}{tc:TT}{te:TE}(hc:X.calm=true)(sc:zT X N nt ix scope cl)(ho:PE X o td)(hg:∀(s:Ac)(H:Hp)(fp:List Aa)(C:Aa),PG (zt X N scope cl s H fp C) (.Tuple elts x1 tp) g)(ht:∀(s:Ac)(H:Hp)(fp:List Aa)(C:Aa),PTs (zt X N scope cl s H fp C) ifs tc)(he:∀(s:Ac)(H:Hp)(fp:List Aa)(C:Aa),PE (zt X N scope cl s H fp C) elt te)(hs:∀x,foldedSetIterable (.Call (.Attribute o "items" apos) [] [] cpos) X.env x=pure x:=by intro _;rfl)(hbase:autoParam (attributeBase o "items" X.env (eval o X.env)=eval o X.env) aR._auto_1)(hline:autoParam ((apos.endLine == cpos.line)=true) aR._auto_1):
  PE X (.ListComp elt [⟨.Tuple elts x1 tp,.Call (.Attribute o "items" apos) [] [] cpos,ifs,0⟩] scope pos) (z9z nt ix td g tc te):=by
 intro vY s σ H Q I h;rw[eval_ListComp];refine wpAny_comprehension_free (use:=none) rfl hs sc.clos sc.kind sc.names ?_;refine wpAny_Call_method0_late hbase hline (thn (ho vY s σ H _ I h) fun v s1 zz=>?_);obtain⟨x,H1,I1,r1,a,kvs,ex,ha,q1⟩:=zz;subst ex;cases r1;obtain⟨hz,hsy,vs,rel,dd⟩:=z3I I1.hok ha;obtain⟨ob,es,ep,hob,hex,hdat,r3⟩:=id dd;have hlen:kvs.length=vs.length:=Paired.length rel;refine⟨"dict",_,F.plainAttrs_dict,F.slot_dict_items,F.type_dict_items,⟨ob,hob,hex.1⟩,fun b z=>(by cases z;exact⟨ob,hob,hex.2.1⟩),vF rfl<|PySem.evalArgs_none ?_⟩;refine call_meetsIn F.slot_dict_items dd.typeIs F.entry_dict_items (F.args_dict_items_1 _) (meets_dict_items (zX X.prog X.w) a hsy) ⟨⟨vs,dd⟩,?_⟩;have k2:∀b o,s1.heap.get? b=some o->(s1.heap.push {cls:=.type "dict_items",data:=.fields #[.ref a]}).get? b=some o:=fun b o e=>vb _ e
 have I2:Inv X vY σ H1 {s1 with heap:=s1.heap.push {cls:=.type "dict_items",data:=.fields #[.ref a]} }:=I1.kept (t':=s1.toks) k2;have hm:(s1.heap.push {cls:=.type "dict_items",data:=.fields #[.ref a]}).DictAt (zX X.prog X.w) a vs ep:=⟨ob,es,k2 _ _ hob,hex,hdat,r3⟩
 generalize hs2:({s1 with heap:=s1.heap.push {cls:=.type "dict_items",data:=.fields #[.ref a]} }:Ac)=s2 at *;have hm2:s2.heap.DictAt (zX X.prog X.w) a vs ep:=by rw[<-hs2];exact hm
 have hview:s2.heap.IsItemsView s1.heap.objs.size a:=⟨_,by rw[<-hs2];exact vg _ rfl,rfl,rfl⟩
 refine wpAny_pyIter_items hview hm2 ?_;have k3:∀b o,s2.heap.get? b=some o->(s2.heap.push {cls:=.type "dict_itemiterator",data:=.fields #[.none,.bool false,.ref a,.int 0 0,.int vs.length 0,.int ep 0,.none,.none]}).get? b=some o:=fun b o e=>vb _ e
 have I3:Inv X vY σ H1 {s2 with heap:=s2.heap.push {cls:=.type "dict_itemiterator",data:=.fields #[.none,.bool false,.ref a,.int 0 0,.int vs.length 0,.int ep 0,.none,.none]} }:=I2.kept (t':=s2.toks) k3;have hob3:(s2.heap.push {cls:=.type "dict_itemiterator",data:=.fields #[.none,.bool false,.ref a,.int 0 0,.int vs.length 0,.int ep 0,.none,.none]}).get? a=some ob:=k3 _ _ (by rw[<-hs2];exact k2 _ _ hob);have nf:=I3.nofrz ha (fun _ _=>nofun);have I4:=I3.recast (u':=.frz ob (.dK kvs)) ha (fun _=>nofun) (fun _=>nofun) (fun _=>nofun) nf ⟨hob3,hz,hsy,vs,rel,ob,es,ep,hob3,hex,hdat,r3⟩;have itn:H1 s2.heap.objs.size=none:=I2.fresh;have nea:s2.heap.objs.size≠a:=(zd ha itn).symm;refine ZG (Q:=fun v H'=>H' a=some (.frz ob<|.dK kvs)/\Q v (upd H' a<|.dK kvs)) (RR:=fun acc C=>compPost (model X.prog X.w) X.A X.xe none (EP X vY σ Q) acc C) hc sc I4 (Jw a s2.heap.objs.size ob kvs) ⟨es,ep,.none,.none,hdat,by rw[hlen];exact vg _ rfl⟩ (fun b hb=>?_) hg ht he (fun l hl=>?_) ?_
 ·have z:b=s2.heap.objs.size:=by simpa using hb
  subst z;exact I2.fpOk (kg _) (by rw[zg nea];exact itn)
 ·have hl1:H1 l=none:=by
   cases q:H1 l with
  |none=>rfl
  |some u=>
    by_cases z:l=a
    ·subst z;rw[z7] at hl;cases hl
    ·rw[zg z,q] at hl;cases hl
  obtain⟨W,w0,turn⟩:=q1 ob l hl1;refine⟨W,w0,fun i m ys σ' H2 hW=>?_⟩;obtain⟨t1,t2,t3⟩:=turn i m ys σ' H2 hW;by_cases hlt:i < kvs.length
  ·refine .inr ⟨⟨t1,hlt⟩,fun x H3 y=>?_⟩;obtain⟨p,k,v,rfl,hp,hkv,rfl⟩:=y;exact t3 p k v hkv hp
  ·exact .inl ⟨⟨t1,by lia⟩,t1,t2<|by lia⟩
 ·intro D C s' H' m I' n' c1 c2 c3 c4 c5 q';obtain⟨q5,q6⟩:=q';refine⟨m,n',fun h' hs'=>?_⟩;have I5:=I'.turned (t':=s'.toks) (it:=C) (h':=h') (fun b o hb e=>(hs'.2 b hb).trans e) c2 c1 (.inr c3) c4 c5;obtain⟨hob5,ok5⟩:=(show qq X.prog X.w H' h' a (.frz ob<|.dK kvs) from I5.hok a _ q5)
  obtain⟨z1,z2,vs',rel',dd'⟩:=(show qq X.prog X.w H' h' a (.dK kvs) from ok5)
  exact⟨.ref D,_,I5.recast (u':=.dK kvs) q5 (fun _=>nofun) (fun _=>nofun) (fun _=>nofun) nf ⟨z1,z2,vs',rel',dd'⟩,rfl,q6⟩
def z5I{bs:List Bool}{us:List Ab}(r:Vals (bs.map V.bl) us):us=bs.map Value.bool:=by
 induction bs generalizing us with
|nil=>cases r;rfl
|cons b bs ih=>
  cases r with
 |cons x y=>cases x;rw[ih y];rfl
def jz(hc:X.calm=true):Zs X (.builtin "all") (fun xs H Q=>∃(p:Aa)(bs:List Bool),xs=[.ref p]/\SqL X.K H p (bs.map V.bl)/\Q (.bl<|bs.all id) H):=by
 intro vY s σ H xs us Q I r h;obtain⟨p,bs,rfl,hS,q⟩:=h;obtain⟨u,rfl,ru⟩:=Js r;cases ru;obtain⟨its,rv,pl,hz⟩:=I.list hS;obtain rfl:=z5I rv;have hh:X.A.in1.handled=none:=I.ok.hd hc;have hne:p≠s.heap.objs.size:=vn (by obtain⟨o,_,e,_⟩:=pl;exact vf e);refine call_all_walk (wpAny_pyIter_list pl.isList ?_);refine⟨s.heap.objs.size,_,_,_,_,_,fun i=>(bs[i]?).getD true,rfl,Walks.list hh s.heap.objs.size p hne (bs.map Value.bool).toArray,⟨⟨_,vg _ rfl,rfl,rfl⟩,pl.isList.push _⟩,fun i v s' Q' E' hv hq=>?_,fun h' tk hk=>?_⟩
 ·have hv:(bs.map Value.bool).toArray[i]?=some v:=hv;rw[List.getElem?_toArray,vh] at hv;cases hb:bs[i]? with
 |none=>rw[hb] at hv;cases hv
 |some b=>
   rw[hb] at hv;cases hv;have hq:Q' ((bs[i]?).getD true) s':=hq;rw[hb] at hq;exact vE hq
 ·have e:(List.range (bs.map Value.bool).toArray.size).all (fun i=>(bs[i]?).getD true)=bs.all id:=by
   rw[kF,kl,vT,List.all_eq_true,List.all_eq_true];constructor
   ·intro h b hb;obtain⟨i,hi⟩:=List.getElem?_of_mem hb;have:=h i (List.mem_range.mpr (kh.mp hi).1)
    rw[hi] at this;exact this
   ·intro h i hi;rw[kL<|List.mem_range.mp hi];exact h _ (List.getElem_mem _)
  rw[e];refine⟨.bl _,H,I.kept (t':=tk) fun b o e=>hk b o (fun z=>?_)<|vb _ e,rfl,q⟩;have:b=s.heap.objs.size:=by simpa using z
  rw[this] at e;exact vd (vf e) (vD _)
def z9t(tab:List (Str × V))(ty tx:TE):TE:=fun σ H Q=>ty σ H fun y H1=>tx σ H1 fun z H2=>∃x,y=.str x/\Q ((tab.lookup x).getD z) H2
def QM{nm:Str}{e f:Expr}{p apos cpos:Pos}{d:Aa}{tab:List (Str × V)}{ty tx:TE}(T:KTab X.w.params X.K d tab)(hg:Gl X nm)(hm:X.mg nm=some (.ref d))(he:PE X e ty)(hf:PE X f tx)(m:M2 X (.Name nm p) "get" apos e f cpos)(hd:autoParam ((nm == ("__debug__":Str))=false) aR._auto_2):
  PE X (.Call (.Attribute (.Name nm p) "get" apos) [e,f] [] cpos) (z9t tab ty tx):=by
 intro vY s σ H Q I h;refine wpAny_Call_method m.base m.few m.line PySem.F.plainAttrs_dict vU PySem.F.type_dict_get (ZD I hg hm ?_ hd);obtain⟨es,n,hl,hk,hsy,hp⟩:=id T;have ho:=I.kIn d _ hl;refine⟨⟨_,ho,rfl⟩,fun b z=>(by cases z;exact⟨_,ho,rfl⟩),?_⟩;rw[m.trees];refine vF rfl (Calls.evalArgs_plain (vN (thn (he vY s σ H _ I h) fun iv s2 ⟨y,H2,I2,ry,q2⟩=>
  vN (thn (hf vY s2 σ H2 _ I2 q2) fun fv s3 ⟨z,H3,I3,rz,x,ex,q3⟩=>Calls.spliced_nil ?_))))
 subst ex;obtain⟨t,rfl⟩:=ry;obtain⟨fm,mo,_,hf⟩:=z0p (prog:=X.prog) (w:=X.w) rfl T I3.kIn;refine call_meetsIn vU mo.typeIs PySem.F.entry_dict_get (PySem.F.args_dict_get_3 _ _ _) (meets_dict_get_default (strKind X.prog X.w) d (strKind_is X.prog X.w x t) hsy fv) ⟨_,mo,_,H3,I3.tok _,(hf x).getD rz,q3⟩
end
end L2
def zU0{C:List PySem.Value->Prop}(h:C []):∀us:List PySem.Value,us.length=0->C us:=by
 intro us hl;cases us with
|nil=>exact h
|cons a t=>exact vd hl (Nat.succ_ne_zero _)
def zU1{C:List PySem.Value->Prop}(h:∀a,C [a]):∀us:List PySem.Value,us.length=1->C us:=by
 intro us hl;cases us with
|nil=>exact vd hl.symm (Nat.succ_ne_zero _)
|cons a t=>exact zU0 (C:=fun t=>C (a::t)) (h a) t (Nat.succ.inj hl)
def zU2{C:List PySem.Value->Prop}(h:∀a b,C [a,b]):∀us:List PySem.Value,us.length=2->C us:=by
 intro us hl;cases us with
|nil=>exact vd hl.symm (Nat.succ_ne_zero _)
|cons a t=>exact zU1 (C:=fun t=>C (a::t)) (h a) t (Nat.succ.inj hl)
def zU3{C:List PySem.Value->Prop}(h:∀a b c,C [a,b,c]):∀us:List PySem.Value,us.length=3->C us:=by
 intro us hl;cases us with
|nil=>exact vd hl.symm (Nat.succ_ne_zero _)
|cons a t=>exact zU2 (C:=fun t=>C (a::t)) (h a) t (Nat.succ.inj hl)
def zU4{C:List PySem.Value->Prop}(h:∀a b c d,C [a,b,c,d]):∀us:List PySem.Value,us.length=4->C us:=by
 intro us hl;cases us with
|nil=>exact vd hl.symm (Nat.succ_ne_zero _)
|cons a t=>exact zU3 (C:=fun t=>C (a::t)) (h a) t (Nat.succ.inj hl)
def zU5{C:List PySem.Value->Prop}(h:∀a b c d e,C [a,b,c,d,e]):∀us:List PySem.Value,us.length=5->C us:=by
 intro us hl;cases us with
|nil=>exact vd hl.symm (Nat.succ_ne_zero _)
|cons a t=>exact zU4 (C:=fun t=>C (a::t)) (h a) t (Nat.succ.inj hl)
local macro_rules|`(tactic| symm) => `(tactic| try dsimp only[L2.cxOf, L2.Cx.nox])
namespace My
open L2
variable {P:Program}{w:World}{K:ku}{mg:Str->Option Ab}{base:Heap}
def fsM{N P:List Str}{sc:Scope}(a:autoParam (sc.kind=.function) aR._auto_1)(b:autoParam (sc.isCoroutine=false) aR._auto_1)(c:autoParam (sc.isGenerator=false) aR._auto_1)(d:N.Nodup:=by trivial)(e:autoParam (N.take P.length=P) aR._auto_1)(f:∀x∈P,sc.names.lookup x=some .local\/sc.names.lookup x=some .cell:=by trivial)(g:∀y∈sc.names,y.2≠.free:=by trivial):zj N P sc:=⟨a,b,c,d,e,f,g⟩
def jS{X:Cx}{o e:Expr}{es:List Expr}{to:TE}{t:TA}{apos cpos:Pos}(ho:PE X o to)(ha:PA X (e::es) t)(hbase:autoParam (attributeBase o "append" X.env (eval o X.env)=eval o X.env) aR._auto_1)(hfew:autoParam (((backTo cpos<|starEach (e::es) X.env).all (fun x=> !x.1)&&(backToKw cpos<|keywordEach [] X.env).all (fun x=>x.1.isSome)&&decide ((e::es).length+([]:List Keyword).length+(if ([]:List Keyword).isEmpty then 0 else 1) < 30))=true) aR._auto_1)(hline:autoParam ((apos.endLine == cpos.line)=true) aR._auto_1)(hs:autoParam (starEach (e::es) X.env=(false,eval e X.env)::starEach es X.env) aR._auto_1)(hplain:autoParam ((backTo cpos<|starEach es X.env).any (·.1)=false) aR._auto_1):PE X (.Call (.Attribute o "append" apos) (e::es) [] cpos) (tBM X.K "list" z05 to t):=z1W PySem.F.plainAttrs_list PySem.F.slot_list_append PySem.F.type_list_append z4L ho ha hbase hfew hline hs hplain
noncomputable def top(i:Nat):Stmt:=PySem.Challenge.pw_codemill_k71_whole_least_units.main.body.getD i (.Pass ⟨0,0,0,0⟩)
def FN(P:Program)(w:World)(K:ku)(mg:Str->Option Ab)(base:Heap)(k:Nat)(name:Str)(ps:List Str)(sp:Sp):Prop:=
 ∃f fd,mg name=some (.ref f)/\PySem.W.keepIn K (.ref f)=true/\Zt K fd ps []/\FnOk P w K mg base CX0 k f fd ps sp
def zn(K:ku)(mg:Str->Option Ab)(name:Str)(st:Stmt):Prop:=∃f fd,Fun K name name st f fd/\mg name=some (.ref f)
section
def FN.mono{j k:Nat}{name:Str}{ps:List Str}{sp:Sp}(F:FN P w K mg base j name ps sp)(h:j<=k):FN P w K mg base k name ps sp:=by
 obtain⟨f,fd,a,b,c,d⟩:=F;exact⟨f,fd,a,b,c,d.mono h⟩
def FN.imp{k:Nat}{name:Str}{ps:List Str}{sp sp':Sp}(F:FN P w K mg base k name ps sp)(h:∀vs H Q E,sp' vs H Q E->sp vs H Q E):FN P w K mg base k name ps sp':=by
 obtain⟨f,fd,a,b,c,d⟩:=F;exact⟨f,fd,a,b,c,d.imp h⟩
def FN.of{name:Str}{st:Stmt}{N ps:List Str}{sp:Sp}{k:Nat}(D:zn K mg name st)(S:zj N ps (zc st))(hb:∀(kV doc pm:Ab)(an:Option Aa)(cdv ct:Ab)(us:List Ab),us.length=ps.length->bindArgs (PySem.W.fnOf name name (qF st) (zR st) (zc st) .none kV doc pm an cdv ct) ⟨us,[]⟩=pure (ps.zip us))(len:∀vs H Q E,sp vs H Q E->vs.length=ps.length)(hbody:∀(f:Aa)(cdv:Ab)(A:Around)(vZ:List Env)(s:Ac)(H:Hp)(vs:List V)(Q:VK)(E:XK),Room k (A.deeper<|envOfC name (zc st) s.heap.objs.size f cdv)->sp vs H Q E->
   ∃t,PSs (cxOf CX0 P w K mg base N name (zc st) f cdv A vZ s H E).nox (zR st) t/\t {nx:=fun _ H'=>Q .non H',rt:=Q} (start N vs) H):FN P w K mg base (k+1) name ps sp:=by
 obtain⟨f,fd,F,m⟩:=D;exact⟨f,fd,m,F.kp,F.binds hb,F.ok S len<|hbody f⟩
def FN.o{name:Str}{st:Stmt}{N ps:List Str}{sp:Sp}{k:Nat}(D:zn K mg name st)(S:zj N ps (zc st))(hbody:∀(f:Aa)(cdv:Ab)(A:Around)(vZ:List Env)(s:Ac)(H:Hp)(vs:List V)(Q:VK)(E:XK),Room k (A.deeper<|envOfC name (zc st) s.heap.objs.size f cdv)->sp vs H Q E->
   ∃t,PSs (cxOf CX0 P w K mg base N name (zc st) f cdv A vZ s H E).nox (zR st) t/\t {nx:=fun _ H'=>Q .non H',rt:=Q} (start N vs) H)(hb:∀(kV doc pm:Ab)(an:Option Aa)(cdv ct:Ab)(us:List Ab),us.length=ps.length->bindArgs (PySem.W.fnOf name name (qF st) (zR st) (zc st) .none kV doc pm an cdv ct) ⟨us,[]⟩=pure (ps.zip us):=by (first|exact fun _ _ _ _ _ _=>zU1 fun _=>rfl|exact fun _ _ _ _ _ _=>zU2 fun _ _=>rfl|exact fun _ _ _ _ _ _=>zU3 fun _ _ _=>rfl|exact fun _ _ _ _ _ _=>zU4 fun _ _ _ _=>rfl|exact fun _ _ _ _ _ _=>zU5 fun _ _ _ _ _=>rfl))(len:∀vs H Q E,sp vs H Q E->vs.length=ps.length:=by (intro vs H Q E h;first|(cases h;subst_vars;rfl)|repeat (first|(obtain⟨e,_⟩:=h;subst e;rfl)|(obtain⟨_,h⟩:=h)))):FN P w K mg base (k+1) name ps sp:=FN.of D S hb len hbody
end
section
variable {X:Cx}{k:Nat}{name:Str}{ps:List Str}{sp:Sp}{p pos:Pos}{e:Expr}{es:List Expr}{t:TA}
def zk(F:FN X.prog X.w X.K X.mg X.base k name ps sp)(hr:Room k X.A)(hg:Gl X name)(ha:PA X (e::es) t)(hdb:autoParam ((name == ("__debug__":Str))=false) aR._auto_2)(he:autoParam (starEach (e::es) X.env=(false,eval e X.env)::starEach es X.env) aR._auto_1)(hpl:autoParam ((backTo pos<|starEach es X.env).any (·.1)=false) aR._auto_1):
  PE X (.Call (.Name name p) (e::es) [] pos) (z1A sp [] E0 t):=by
 obtain⟨f,fd,a,b,c,d⟩:=F;exact z4t d hr hg a b c .nil z3i ha hdb he hpl
end
inductive Scal:V->Prop where
|non:Scal .non
|bl (b:Bool):Scal (.bl b)
|int (i:Int):Scal (.int i)
|str (s:Str) (h:s.length<=sizeLine):Scal (.str s)
noncomputable def z8x:V->Bool
|.int _=>true
|_=>false
noncomputable def isB:V->Bool
|.bl _=>true
|_=>false
noncomputable def isS:V->Bool
|.str _=>true
|_=>false
noncomputable def zW(x:V)(lo hi:Int):Bool:=match x with
|.int i=>decide (lo<=i)&&decide (i<=hi)
|_=>false
noncomputable def jt(x:V)(most:Int):Bool:=match x with
|.str s=>decide ((1:Int)<=(s.length:Int))&&decide ((s.length:Int)<=most)&&Txt.isascii s&&Txt.isalpha s
|_=>false
noncomputable def low:V->Bool
|.str s=>Txt.islower s
|_=>false
noncomputable def ZV(x:V):Bool:=jt x 4&&low x
noncomputable def z0q(x:V):Bool:=jt x 8
noncomputable def z6v(x:V):Bool:=zW x 0 99
noncomputable def QT(x:V)(most:Int):Bool:=decide (x=.non)||isB x||zW x (-most) most||z0q x
noncomputable def zU(x:V):Bool:=QT x 1000000000
noncomputable def Qo(x:V):Bool:=zW x 1 9
noncomputable def Zm(x:V):Bool:=zW x 2 9
noncomputable def z3j(x:V):Bool:=decide (x=.non)
noncomputable def Qh:List (Str × Str):=[("push","value"),("load","name"),("quick","name"),("store","name"),("clear","name"),("copy","copied"),("swap","swapped"),("jump","mark"),("iftrue","mark"),("iffalse","mark"),("ortrue","mark"),("orfalse","mark"),("try","mark"),("label","mark"),("add","none"),("sub","none"),("mul","none"),("div","none"),("rest","none"),("less","none"),("same","none"),("neg","none"),("not","none"),("drop","none"),("tell","none"),("return","none"),("raise","none"),("endtry","none")]
noncomputable def zx(op:Str):Option Str:=Qh.lookup op
noncomputable def qk(sort:Str)(x:V):Bool:=
 if sort="value" then zU x else if sort="name" then ZV x else if sort="copied" then Qo x else if sort="swapped" then Zm x else if sort="mark" then z6v x else z3j x
noncomputable def Zh(op:Str)(x:V):Bool:=match zx op with
|some s=>qk s x
|none=>false
noncomputable def rowV(op:Str)(arg line:V):Bool:=(zx op).isSome&&Zh op arg&&zW line 0 9999
structure Glo(mg:Str->Option Ab):Prop where
 isinstance:mg "isinstance"=none
 int:mg "int"=none
 bool:mg "bool"=none
 str:mg "str"=none
 tuple:mg "tuple"=none
 list:mg "list"=none
 len:mg "len"=none
 range:mg "range"=none
 enumerate:mg "enumerate"=none
 rows:∃u,mg "MOST_ROWS"=some u/\RelV (.int 150) u
 line:∃u,mg "MOST_LINE"=some u/\RelV (.int 9999) u
 mark:∃u,mg "MOST_MARK"=some u/\RelV (.int 99) u
 pushed:∃u,mg "MOST_PUSHED"=some u/\RelV (.int 1000000000) u
 name:∃u,mg "LONGEST_NAME"=some u/\RelV (.int 4) u
 kind:∃u,mg "LONGEST_KIND"=some u/\RelV (.int 8) u
 all:mg "all"=none
 max:mg "max"=none
 min:mg "min"=none
def zD:bootBuiltins "isinstance"=some (.builtin "isinstance"):=vW
def z32:bootBuiltins "int"=some (.type "int"):=vW
def Jo:bootBuiltins "bool"=some (.type "bool"):=vW
def z31:bootBuiltins "str"=some (.type "str"):=vW
def qi:bootBuiltins "tuple"=some (.type "tuple"):=vW
def Jn:bootBuiltins "list"=some (.type "list"):=vW
def zK:bootBuiltins "len"=some (.builtin "len"):=vW
def z6D{K:ku}{H:Hp}{x:V}(h:Scal x):∃t,TyOf K H x t/\PySem.W.kitOne K t (.type "int")=some (z8x x||isB x):=by
 cases h with
|non=>exact⟨_,.non,rfl⟩
|bl b=>exact⟨_,.bl b,rfl⟩
|int i=>exact⟨_,.int i,rfl⟩
|str s _=>exact⟨_,.str s,rfl⟩
def z1c{K:ku}{H:Hp}{x:V}(h:Scal x):∃t,TyOf K H x t/\PySem.W.kitOne K t (.type "bool")=some (isB x):=by
 cases h with
|non=>exact⟨_,.non,rfl⟩
|bl b=>exact⟨_,.bl b,rfl⟩
|int i=>exact⟨_,.int i,rfl⟩
|str s _=>exact⟨_,.str s,rfl⟩
def z2K{K:ku}{H:Hp}{x:V}(h:Scal x):∃t,TyOf K H x t/\PySem.W.kitOne K t (.type "str")=some (isS x):=by
 cases h with
|non=>exact⟨_,.non,rfl⟩
|bl b=>exact⟨_,.bl b,rfl⟩
|int i=>exact⟨_,.int i,rfl⟩
|str s _=>exact⟨_,.str s,rfl⟩
def z3z{K:ku}{H:Hp}{x:V}(h:Scal x):∃t,TyOf K H x t/\PySem.W.kitOne K t (.type "tuple")=some false:=by
 cases h with
|non=>exact⟨_,.non,rfl⟩
|bl b=>exact⟨_,.bl b,rfl⟩
|int i=>exact⟨_,.int i,rfl⟩
|str s _=>exact⟨_,.str s,rfl⟩
section
variable {X:Cx}
def ZS(T:String){x:Str}{pos:Pos}(hg:Gl X x)(hm:X.mg x=none)(hv:bootBuiltins x=some (.type T))(hn:autoParam (x≠"__name__") aR._auto_2)(hd:autoParam ((x == ("__debug__":Str))=false) aR._auto_2):PE X (.Name x pos) (tC<|.ty T):=z8c hg hm hv rfl hn hd
def qU{x:Str}{v:V}{pos:Pos}(hg:Gl X x)(hm:∃u,X.mg x=some u/\RelV v u)(hd:autoParam ((x == ("__debug__":Str))=false) aR._auto_2):PE X (.Name x pos) (tC v):=by
 obtain⟨u,h1,h2⟩:=hm;exact Z1 hg h1 h2 hd
end
section
inductive sp1(f:V->Bool)(vs:List V)(H:Hp)(Q:VK)(E:XK):Prop
|mk (x:_):vs=[x]->Scal x->Q (.bl<|f x) H->sp1 f vs H Q E
def zbk{f:V->Bool}(vs:List V)(H:Hp)(Q:VK)(E:XK)(h:sp1 f vs H Q E):vs.length=1:=by
 obtain⟨x,rfl,_⟩:=h;rfl
def sc13:zj ["thing"] ["thing"] (zc<|top 13):=fsM
def z1j(D:zn K mg "is_number" (top 13))(G:Glo mg):FN P w K mg base 1 "is_number" Vc (sp1 z8x):=by
 refine FN.o D sc13 ?_;rintro _ _ _ _ s H _ _ _ _ ⟨x,rfl,hx,q⟩;refine⟨_,z8 (zl (qS (zq zZ rfl G.isinstance zD<|pa2 (pv 0)<|ZS "int" rfl G.int z32)
  (qZ<|za0<|zq zZ rfl G.isinstance zD<|pa2 (pv 0)<|ZS "bool" rfl G.bool Jo))),?_⟩
 symm
 obtain⟨t1,ty1,k1⟩:=z6D (K:=K) (H:=H) hx;obtain⟨t2,ty2,k2⟩:=z1c (K:=K) (H:=H) hx;refine⟨_,"int",t1,_,rfl,ty1,k1,_,rfl,?_⟩;cases hx with
|non=>exact q
|bl b=>exact⟨_,"bool",t2,_,rfl,ty2,k2,_,rfl,q⟩
|int i=>exact⟨_,"bool",t2,_,rfl,ty2,k2,_,rfl,q⟩
|str s _=>exact q
inductive jp(vs:List V)(H:Hp)(Q:VK)(E:XK):Prop
|mk (x:_) (lo:_) (hi:_):vs=[x,.int lo,.int hi]->Scal x->Q (.bl<|zW x lo hi) H->jp vs H Q E
def sc14:zj ["thing","low","high"] ["thing","low","high"] (zc<|top 14):=fsM
abbrev Fa(P:Program)(w:World)(K:PySem.W.Frag)(mg:Str->Option Ab)(base:Heap):=FN P w K mg base 2 "is_number_within" ["thing","low","high"] jp
def z58(D:zn K mg "is_number_within" (top 14))(G:Glo mg)(F1:FN P w K mg base 1 "is_number" Vc (sp1 z8x)):Fa P w K mg base:=by
 refine FN.o D sc14 ?_;rintro _ _ _ _ s H _ Q _ hr ⟨x,lo,hi,rfl,hx,q⟩;refine⟨_,z8<|zl<|qS (zk F1 hr rfl<|pa1<|pv 0)<|qZ<|z0c z1X z1X (pv 1) (pv 0)<|pv 2,?_⟩
 symm
 refine⟨x,rfl,hx,_,rfl,?_⟩;cases hx with
|non=>exact q
|bl b=>exact q
|str s _=>exact q
|int i=>
  refine⟨_,_,rfl,rfl,_,rfl,?_⟩;have q':Q (.bl (decide (lo<=i)&&decide (i<=hi))) H:=q;refine ite2 (fun c=>?_) (fun c=>?_)
  ·rw[c,Bool.true_and] at q';exact⟨_,_,rfl,rfl,q'⟩
  ·rw[Ah.mpr c,vB] at q';exact q'
inductive ZM(vs:List V)(H:Hp)(Q:VK)(E:XK):Prop
|mk (x:_) (most:_):vs=[x,.int most]->Scal x->Q (.bl<|jt x most) H->ZM vs H Q E
def sc15:zj ["thing","most"] ["thing","most"] (zc<|top 15):=fsM
def z3E(D:zn K mg "is_letters" (top 15))(G:Glo mg):FN P w K mg base 1 "is_letters" ["thing","most"] ZM:=by
 refine FN.o D sc15 ?_;rintro _ _ _ _ _ H _ Q _ _ ⟨x,most,rfl,hx,q⟩;refine⟨_,z8 (zl (qS (zq zZ rfl G.isinstance zD<|pa2 (pv 0)<|ZS "str" rfl G.str z31)
  (qS (z0c z1X z1X zb (zq z1s rfl G.len zK<|pa1<|pv 0)<|pv 1)
  (qS (z4u F.plainAttrs_str F.slot_str_isascii F.type_str_isascii z3l<|pv 0)
  (qZ<|z4u F.plainAttrs_str F.slot_str_isalpha F.type_str_isalpha z3m<|pv 0))))),?_⟩
 symm
 obtain⟨t1,ty1,k1⟩:=z2K (K:=K) (H:=H) hx;refine⟨_,"str",t1,_,rfl,ty1,k1,_,rfl,?_⟩;cases hx with
|non=>exact q
|bl b=>exact q
|int i=>exact q
|str z hz=>
  have q':Q (.bl (decide ((1:Int)<=(z.length:Int))&&decide ((z.length:Int)<=most)&&Txt.isascii z&&Txt.isalpha z)) H:=q;refine⟨z,rfl,hz,_,_,rfl,rfl,_,rfl,?_⟩;refine ite2 (fun c=>?_) (fun c=>?_)
  ·rw[c,Bool.true_and] at q';refine⟨_,_,rfl,rfl,_,rfl,?_⟩;refine ite2 (fun c=>?_) (fun c=>?_)
   ·rw[c,Bool.true_and] at q';refine⟨rfl,z,rfl,rfl,_,rfl,?_⟩;refine ite2 (fun c=>?_) (fun c=>?_)
    ·rw[c,Bool.true_and] at q';exact⟨rfl,z,rfl,rfl,q'⟩
    ·rw[Ah.mpr c,vB] at q';exact q'
   ·rw[Ah.mpr c,vB,vB] at q';exact q'
  ·rw[Ah.mpr c,vB,vB,vB] at q';exact⟨_,rfl,q'⟩
def sc16:zj ["thing"] ["thing"] (zc<|top 16):=fsM
def z8N(D:zn K mg "is_name" (top 16))(G:Glo mg)(F1:FN P w K mg base 1 "is_letters" ["thing","most"] ZM):FN P w K mg base 2 "is_name" Vc (sp1 ZV):=by
 refine FN.o D sc16 ?_;rintro _ _ _ _ _ H _ Q _ hr ⟨x,rfl,hx,q⟩;refine⟨_,z8 (zl (qS (zk F1 hr rfl<|pa2 (pv 0)<|qU rfl G.name)
  (qZ<|z4u F.plainAttrs_str F.slot_str_islower F.type_str_islower z3k<|pv 0))),?_⟩
 symm
 refine⟨x,4,rfl,hx,_,rfl,?_⟩;have q':Q (.bl (jt x 4&&low x)) H:=q;refine ite2 (fun c=>?_) (fun c=>?_)
 ·rw[c,Bool.true_and] at q';cases hx with
 |non=>cases c
 |bl b=>cases c
 |int i=>cases c
 |str z hz=>exact⟨rfl,z,rfl,rfl,q'⟩
 ·rw[Ah.mpr c,vB] at q';exact q'
def sc17:zj ["thing"] ["thing"] (zc<|top 17):=fsM
def z8V(D:zn K mg "is_kind" (top 17))(G:Glo mg)(F1:FN P w K mg base 1 "is_letters" ["thing","most"] ZM):FN P w K mg base 2 "is_kind" Vc (sp1 z0q):=by
 refine FN.o D sc17 ?_;rintro _ _ _ _ _ _ _ _ _ hr ⟨x,rfl,hx,q⟩;refine⟨_,z8<|zl<|zk F1 hr rfl<|pa2 (pv 0)<|qU rfl G.kind,?_⟩
 symm
 exact⟨x,8,rfl,hx,q⟩
def sc18:zj ["thing"] ["thing"] (zc<|top 18):=fsM
def z8O(D:zn K mg "is_mark" (top 18))(G:Glo mg)(F1:Fa P w K mg base):FN P w K mg base 3 "is_mark" Vc (sp1 z6v):=by
 refine FN.o D sc18 ?_;rintro _ _ _ _ _ _ _ _ _ hr ⟨x,rfl,hx,q⟩;refine⟨_,z8<|zl<|zk F1 hr rfl<|pa3 (pv 0) zb<|qU rfl G.mark,?_⟩
 symm
 exact⟨x,0,99,rfl,hx,q⟩
inductive z1E(vs:List V)(H:Hp)(Q:VK)(E:XK):Prop
|mk (x:_) (most:_):vs=[x,.int most]->Scal x->Q (.bl<|QT x most) H->z1E vs H Q E
def sc19:zj ["thing","most"] ["thing","most"] (zc<|top 19):=fsM
def z6R(D:zn K mg "is_value_within" (top 19))(G:Glo mg)(F1:Fa P w K mg base)(F2:FN P w K mg base 2 "is_kind" Vc (sp1 z0q)):FN P w K mg base 3 "is_value_within" ["thing","most"] z1E:=by
 refine FN.o D sc19 ?_;rintro _ _ _ _ _ H _ Q _ hr ⟨x,most,rfl,hx,q⟩;refine⟨_,z6 (zV (PW.pt<|QZ (zo J5 (pv 0) qR<|zy _)<|Zu<|qH<|zq zZ rfl G.isinstance zD<|pa2 (pv 0)<|ZS "bool" rfl G.bool Jo) (z8<|zl Z2) zC)
  (z8<|zl<|z9Z (zk F1 hr rfl<|pa3 (pv 0) (Qi jO<|pv 1)<|pv 1)<|qZ<|zk F2 hr rfl<|pa1<|pv 0),?_⟩
 symm
 refine⟨rfl,_,rfl,?_⟩;have q':Q (.bl (decide (x=.non)||isB x||zW x (-most) most||z0q x)) H:=q;refine ite2 (fun c=>?_) (fun c=>?_)
 ·rw[c,Bool.true_or,Bool.true_or,Bool.true_or] at q';exact iteT q'
 ·rw[Ah.mpr c,Bool.false_or] at q';obtain⟨t2,ty2,k2⟩:=z1c (K:=K) (H:=H) hx;refine⟨_,"bool",t2,_,rfl,ty2,k2,_,rfl,?_⟩;refine ite2 (fun c=>?_) (fun c=>?_)
  ·rw[c,Bool.true_or,Bool.true_or] at q';exact q'
  ·rw[Ah.mpr c,Bool.false_or] at q';refine⟨most,rfl,x,-most,most,rfl,hx,_,rfl,?_⟩;refine ite2 (fun c=>?_) (fun c=>?_)
   ·rw[c,Bool.true_or] at q';exact q'
   ·rw[Ah.mpr c,Bool.false_or] at q';exact⟨x,rfl,hx,q'⟩
def sc20:zj ["thing"] ["thing"] (zc<|top 20):=fsM
def z5a(D:zn K mg "is_pushed" (top 20))(G:Glo mg)(F1:FN P w K mg base 3 "is_value_within" ["thing","most"] z1E):FN P w K mg base 4 "is_pushed" Vc (sp1 zU):=by
 refine FN.o D sc20 ?_;rintro _ _ _ _ _ _ _ _ _ hr ⟨x,rfl,hx,q⟩;refine⟨_,z8<|zl<|zk F1 hr rfl<|pa2 (pv 0)<|qU rfl G.pushed,?_⟩
 symm
 exact⟨x,1000000000,rfl,hx,q⟩
def sc21:zj ["thing"] ["thing"] (zc<|top 21):=fsM
def z5f(D:zn K mg "is_copied" (top 21))(F1:Fa P w K mg base):FN P w K mg base 3 "is_copied" Vc (sp1 Qo):=by
 refine FN.o D sc21 ?_;rintro _ _ _ _ _ _ _ _ _ hr ⟨x,rfl,hx,q⟩;refine⟨_,z8<|zl<|zk F1 hr rfl<|pa3 (pv 0) zb zb,?_⟩
 symm
 exact⟨x,1,9,rfl,hx,q⟩
def sc22:zj ["thing"] ["thing"] (zc<|top 22):=fsM
def z3D(D:zn K mg "is_swapped_with" (top 22))(F1:Fa P w K mg base):FN P w K mg base 3 "is_swapped_with" Vc (sp1 Zm):=by
 refine FN.o D sc22 ?_;rintro _ _ _ _ _ _ _ _ _ hr ⟨x,rfl,hx,q⟩;refine⟨_,z8<|zl<|zk F1 hr rfl<|pa3 (pv 0) zb zb,?_⟩
 symm
 exact⟨x,2,9,rfl,hx,q⟩
def sc23:zj ["thing"] ["thing"] (zc<|top 23):=fsM
def z8L(D:zn K mg "is_none" (top 23)):FN P w K mg base 1 "is_none" Vc (sp1 z3j):=by
 refine FN.o D sc23 ?_;rintro _ _ _ _ _ _ _ _ _ _ ⟨x,rfl,hx,q⟩;refine⟨_,z8<|zl<|jj J5 (pv 0) qR<|zy _,?_⟩
 symm
 exact⟨rfl,q⟩
def Ql{α β:Type}(f:α->β)(x:Str):∀l:List (Str × α),(l.map fun p=>(p.1,f p.2)).lookup x=(l.lookup x).map f
|[]=>rfl
|(k,v)::r=>by
  rw[kU,List.lookup_cons,List.lookup_cons];cases x == k with
 |true=>rfl
 |false=>exact Ql f x r
noncomputable def z4a:List (Str × V):=Qh.map fun p=>(p.1,V.str p.2)
def QY(x:Str):z4a.lookup x=(zx x).map V.str:=Ql _ _ _
structure Tabs(w:World)(K:ku)(mg:Str->Option Ab):Prop where
 sorts:∃d,mg "ARG_SORTS"=some (.ref d)/\KTab w.params K d z4a
 tests:∃d f1 f2 f3 f4 f5 f6,mg "ARG_TESTS"=some (.ref d)/\KTab w.params K d [("value",.ref f1),("name",.ref f2),("copied",.ref f3),("swapped",.ref f4),("mark",.ref f5),("none",.ref f6)]/\
  mg "is_pushed"=some (.ref f1)/\mg "is_name"=some (.ref f2)/\mg "is_copied"=some (.ref f3)/\mg "is_swapped_with"=some (.ref f4)/\mg "is_mark"=some (.ref f5)/\mg "is_none"=some (.ref f6)
noncomputable def isOp:V->Bool
|.str s=>(zx s).isSome
|_=>false
def sc25:zj ["thing"] ["thing"] (zc<|top 25):=fsM
def zbQ(D:zn K mg "is_op" (top 25))(G:Glo mg)(T:Tabs w K mg):FN P w K mg base 1 "is_op" Vc (sp1 isOp):=by
 refine FN.o D sc25 ?_;rintro _ _ _ _ _ H _ Q _ _ ⟨x,rfl,hx,q⟩;obtain⟨d,md,td⟩:=T.sorts;refine⟨_,z8<|zl<|qS (zq zZ rfl G.isinstance zD<|pa2 (pv 0)<|ZS "str" rfl G.str z31)<|qZ<|z7x<|za3 td rfl md<|pv 0,?_⟩
 symm
 obtain⟨t1,ty1,k1⟩:=z2K (K:=K) (H:=H) hx;refine⟨_,"str",t1,_,rfl,ty1,k1,_,rfl,?_⟩;cases hx with
|non=>exact q
|bl b=>exact q
|int i=>exact q
|str z hz=>
  refine⟨z,rfl,?_⟩;have q':Q (.bl (zx z).isSome) H:=q;rw[QY,Option.isSome_map];exact q'
inductive Jx(vs:List V)(H:Hp)(Q:VK)(E:XK):Prop
|mk (op:_) (s:_):vs=[.str op]->zx op=some s->Q (.str s) H->Jx vs H Q E
def sc26:zj ["op"] ["op"] (zc<|top 26):=fsM
abbrev Fb(P:Program)(w:World)(K:PySem.W.Frag)(mg:Str->Option Ab)(base:Heap):=FN P w K mg base 1 "arg_sort" ["op"] Jx
def z8F(D:zn K mg "arg_sort" (top 26))(T:Tabs w K mg):Fb P w K mg base:=by
 refine FN.o D sc26 ?_;rintro _ _ _ _ _ _ _ _ _ _ ⟨op,so,rfl,hs,q⟩;obtain⟨d,md,td⟩:=T.sorts;refine⟨_,z8<|zl<|z4q td rfl md (pv 0) fun _ _=>rfl,?_⟩
 symm
 exact⟨op,.str so,rfl,by rw[QY,hs];rfl,q⟩
inductive z48(vs:List V)(H:Hp)(Q:VK)(E:XK):Prop
|mk (op:_) (s:_) (x:_):vs=[.str op,x]->zx op=some s->Scal x->Q (.bl<|qk s x) H->z48 vs H Q E
def sc27:zj ["op","arg","fits"] ["op","arg"] (zc<|top 27):=fsM
def z7Z{op s:Str}(h:zx op=some s):s="value"\/s="name"\/s="copied"\/s="swapped"\/s="mark"\/s="none":=by
 have hm:(op,s)∈Qh:=vc h;have all:∀p∈Qh,p.2="value"\/p.2="name"\/p.2="copied"\/p.2="swapped"\/p.2="mark"\/p.2="none":=vW;exact all _ hm
def z8Z(D:zn K mg "arg_fits" (top 27))(T:Tabs w K mg)(F1:Fb P w K mg base)(A1:FN P w K mg base 4 "is_pushed" Vc (sp1 zU))(A2:FN P w K mg base 2 "is_name" Vc (sp1 ZV))(A3:FN P w K mg base 3 "is_copied" Vc (sp1 Qo))(A4:FN P w K mg base 3 "is_swapped_with" Vc (sp1 Zm))(A5:FN P w K mg base 3 "is_mark" Vc (sp1 z6v))(A6:FN P w K mg base 1 "is_none" Vc (sp1 z3j)):
  FN P w K mg base 5 "arg_fits" ["op","arg"] z48:=by
 refine FN.o D sc27 ?_;rintro _ _ _ _ _ _ _ _ _ hr ⟨op,so,x,rfl,hs,hx,q⟩;obtain⟨d,f1,f2,f3,f4,f5,f6,md,td,m1,m2,m3,m4,m5,m6⟩:=T.tests;have hr1:=hr.mono (vW:1<=4);refine⟨_,z6 (zM 2 sc27.nd<|z4q td rfl md (zk F1 hr1 rfl<|pa1<|pv 0) fun _ _=>rfl)<|z8<|zl<|z6i (pv 2)<|pa1<|pv 1,?_⟩
 symm
 refine⟨op,so,rfl,hs,so,?_⟩;rcases z7Z hs with e|e|e|e|e|e
 ·subst e;obtain⟨g,gd,mg1,kp,bd,ok⟩:=A1;cases (kC<|m1.symm.trans mg1);exact⟨.ref f1,rfl,by rfl,f1,gd,_,_,4,rfl,kp,ok,hr,bd,x,rfl,hx,q⟩
 ·subst e;obtain⟨g,gd,mg1,kp,bd,ok⟩:=A2;cases (kC<|m2.symm.trans mg1);exact⟨.ref f2,rfl,by rfl,f2,gd,_,_,2,rfl,kp,ok,hr.mono (by decide),bd,x,rfl,hx,q⟩
 ·subst e;obtain⟨g,gd,mg1,kp,bd,ok⟩:=A3;cases (kC<|m3.symm.trans mg1);exact⟨.ref f3,rfl,by rfl,f3,gd,_,_,3,rfl,kp,ok,hr.mono (by decide),bd,x,rfl,hx,q⟩
 ·subst e;obtain⟨g,gd,mg1,kp,bd,ok⟩:=A4;cases (kC<|m4.symm.trans mg1);exact⟨.ref f4,rfl,by rfl,f4,gd,_,_,3,rfl,kp,ok,hr.mono (by decide),bd,x,rfl,hx,q⟩
 ·subst e;obtain⟨g,gd,mg1,kp,bd,ok⟩:=A5;cases (kC<|m5.symm.trans mg1);exact⟨.ref f5,rfl,by rfl,f5,gd,_,_,3,rfl,kp,ok,hr.mono (by decide),bd,x,rfl,hx,q⟩
 ·subst e;obtain⟨g,gd,mg1,kp,bd,ok⟩:=A6;cases (kC<|m6.symm.trans mg1);exact⟨.ref f6,rfl,by rfl,f6,gd,_,_,1,rfl,kp,ok,hr.mono (by decide),bd,x,rfl,hx,q⟩
def z5S:Sp:=fun vs H Q _=>(vs=[.non]/\Q (.bl false) H)\/∃a op arg line,vs=[.ref a]/\H a=some (.tup [.str op,arg,line])/\op.length<=sizeLine/\Scal arg/\Scal line/\Q (.bl<|rowV op arg line) H
def sc28:zj ["thing","op","arg","line"] ["thing"] (zc<|top 28):=fsM
def zaJ(D:zn K mg "is_row" (top 28))(G:Glo mg)(F1:FN P w K mg base 1 "is_op" Vc (sp1 isOp))(F2:FN P w K mg base 5 "arg_fits" ["op","arg"] z48)(F3:Fa P w K mg base):
  FN P w K mg base 6 "is_row" Vc z5S:=by
 refine FN.of D sc28 (fun _ _ _ _ _ _=>zU1 fun _=>rfl) (fun vs H Q E h=>by rcases h with ⟨rfl,_⟩|⟨a,op,arg,line,rfl,_⟩ <;> rfl) (fun _ _ _ _ _ H _ Q _ hr h=>?_);refine⟨_,z6 (zV (PW.pt (QZ (jw<|qH<|zq zZ rfl G.isinstance zD<|pa2 (pv 0)<|ZS "tuple" rfl G.tuple qi)
   (Zu<|zo z8g (zq zr rfl G.len zK<|pa1<|pv 0) zb<|zy _))) (z8<|zl Z2) zC)
  (z6 (Za (pv 0)<|Z7 rfl<|zu (zL 1 sc28.nd)<|zu (zL 2 sc28.nd)<|zu (zL 3 sc28.nd) qt)
  (z8<|zl<|qS (zk F1 (hr.mono<|by decide) rfl<|pa1<|pv 1)<|qS (zk F2 hr rfl<|pa2 (pv 1)<|pv 2)<|qZ<|zk F3 (hr.mono<|by decide) rfl<|pa3 (pv 3) zb<|qU rfl G.line)),?_⟩
 symm
 rcases h with ⟨rfl,q⟩|⟨a,op,arg,line,rfl,ha,hop,harg,hline,q⟩
 ·obtain⟨t1,ty1,k1⟩:=z3z (K:=K) (H:=H) .non;exact⟨_,"tuple",t1,_,rfl,ty1,k1,_,rfl,iteT<|iteT q⟩
 ·refine⟨_,"tuple",_,true,rfl,.tup ha,rfl,_,rfl,iteF ?_⟩;refine⟨a,_,rfl,.inr<|SqT.of ha,rfl,_,rfl,iteF ?_⟩;refine⟨a,_,rfl,SqT.of ha,rfl,_,_,rfl,_,_,rfl,_,_,rfl,rfl,?_⟩;refine⟨_,rfl,.str op hop,_,rfl,?_⟩;have q':Q (.bl ((zx op).isSome&&Zh op arg&&zW line 0 9999)) H:=q;cases hs:zx op with
 |none=>
   have e:isOp (.str op)=false:=by show (zx op).isSome=false;rw[hs];rfl
   rw[e];rw[hs] at q';exact iteF q'
 |some so=>
   have e:isOp (.str op)=true:=by show (zx op).isSome=true;rw[hs];rfl
   have ea:Zh op arg=qk so arg:=by unfold Zh;rw[hs]
   rw[e];rw[hs,ea] at q';refine iteT ⟨op,so,arg,rfl,hs,harg,_,rfl,?_⟩;refine ite2 (fun c=>?_) (fun c=>?_)
   ·rw[c] at q';exact⟨line,0,9999,rfl,hline,q'⟩
   ·rw[Ah.mpr c] at q';exact q'
end
structure Row where
 op:Str
 arg:V
 line:Int
noncomputable def tupV(r:Row):List V:=[.str r.op,r.arg,.int r.line]
abbrev zI(H:Hp):List Aa->List Row->Prop:=Paired fun a r=>H a=some (.tup<|tupV r)
def jX(r:Row):Prop:=rowV r.op r.arg (.int r.line)=true
def z2y{α β:Type}{F:α->β->Prop}{xs ys:List α}{us vs:List β}(h:Paired F xs us)(k:Paired F ys vs):Paired F (xs++ys) (us++vs):=by
 induction h with
|nil=>exact k
|cons r _ ih=>exact .cons r ih
def z4j{β:Type}{F:Aa->β->Prop}{as:List Aa}{rs:List β}(h:Paired F as rs):∀{i:Nat}{x:V},(as.map V.ref)[i]?=some x->∃a r,x=.ref a/\rs[i]?=some r/\F a r:=by
 induction h with
|nil=>intro i x e;simp at e
|cons r t ih=>
  intro i x e;cases i with
 |zero=>simp at e;subst e;exact⟨_,_,rfl,rfl,r⟩
 |succ i=>
   obtain⟨a,r,h1,h2,h3⟩:=ih (i:=i) (x:=x) (by simpa using e);exact⟨a,r,h1,by simpa using h2,h3⟩
def z9Y{α β:Type}{F:α->β->Prop}{as:List α}{rs:List β}(h:Paired F as rs):∀{i:Nat}{r:β},rs[i]?=some r->∃a,as[i]?=some a/\F a r:=by
 induction h with
|nil=>intro i x e;simp at e
|cons r t ih=>
  intro i x e;cases i with
 |zero=>simp at e;subst e;exact⟨_,rfl,r⟩
 |succ i=>
   obtain⟨a,h2,h3⟩:=ih (i:=i) (by simpa using e);exact⟨a,by simpa using h2,h3⟩
def zI.keep{H H':Hp}{as:List Aa}{rs:List Row}(h:zI H as rs)(k:∀a xs,H a=some (.tup xs)->H' a=some (.tup xs)):zI H' as rs:=Paired.mapP h fun _ _ e=>k _ _ e
def zI.same{H H':Hp}{as:List Aa}{rs:List Row}(h:zI H as rs)(s:Same H H'):zI H' as rs:=h.keep fun _ _ e=>s _ _ e
def zI.get{H:Hp}{as:List Aa}{rs:List Row}{i:Nat}{x:V}(h:zI H as rs)(e:(as.map V.ref)[i]?=some x):∃a r,x=.ref a/\rs[i]?=some r/\H a=some (.tup<|tupV r):=z4j h e
def zI.append{H:Hp}{as bs:List Aa}{rs ts:List Row}(h:zI H as rs)(k:zI H bs ts):zI H (as++bs) (rs++ts):=z2y h k
def zI.len{H:Hp}{as:List Aa}{rs:List Row}(h:zI H as rs):as.length=rs.length:=Paired.length h
def ze{H:Hp}{p:Aa}(h:H p=none)(o:HO):Same H (upd H p o):=fun b u q=>by rw[zg<|zd q h];exact q
def Same.upd{H H2:Hp}{p:Aa}(s:Same H H2)(h:H p=none)(o:HO):Same H (upd H2 p o):=fun b u q=>by rw[zg<|zd q h];exact s b u q
def z6m{op s:Str}(h:zx op=some s):op.length<=7:=by
 have hm:(op,s)∈Qh:=vc h;have all:∀p∈Qh,p.1.length<=7:=vW;exact all _ hm
def z4b{n:Nat}(h:n<=1000):n<=sizeLine:=Nat.le_of_lt (zF h)
def Qy{x:V}{m:Int}(h:jt x m=true)(hm:m<=100):Scal x:=by
 cases x with
|str s=>
  have h:(decide ((1:Int)<=(s.length:Int))&&decide ((s.length:Int)<=m)&&Txt.isascii s&&Txt.isalpha s)=true:=h;simp only[yd,ye] at h;exact .str s (z4b<|by lia)
|_=>cases h
def qI{x:V}{lo hi:Int}(h:zW x lo hi=true):∃i,x=.int i/\lo<=i/\i<=hi:=by
 cases x with
|int i=>
  have h:(decide (lo<=i)&&decide (i<=hi))=true:=h;simp only[yd,ye] at h;exact⟨i,rfl,h.1,h.2⟩
|_=>cases h
def Q8{s:Str}{x:V}(h:qk s x=true):Scal x:=by
 unfold qk at h;split at h
 ·unfold zU QT at h;simp only[Bool.or_eq_true,ye] at h;rcases h with ((h|h)|h)|h
  ·subst h;exact .non
  ·cases x with
  |bl b=>exact .bl b
  |_=>cases h
  ·obtain⟨i,rfl,_⟩:=qI h;exact .int i
  ·exact Qy h (by decide)
 ·split at h
  ·unfold ZV at h;simp only[yd] at h;exact Qy h.1 (by decide)
  ·split at h
   ·obtain⟨i,rfl,_⟩:=qI h;exact .int i
   ·split at h
    ·obtain⟨i,rfl,_⟩:=qI h;exact .int i
    ·split at h
     ·obtain⟨i,rfl,_⟩:=qI h;exact .int i
     ·unfold z3j at h;simp only[ye] at h;subst h;exact .non
def jX.parts{r:Row}(h:jX r):∃s,zx r.op=some s/\qk s r.arg=true/\0<=r.line/\r.line<=9999/\r.op.length<=sizeLine/\Scal r.arg:=by
 unfold jX rowV at h;simp only[yd] at h;obtain⟨⟨h1,h2⟩,h3⟩:=h;obtain⟨s,hs⟩:=Ag.mp h1;have h2':qk s r.arg=true:=by unfold Zh at h2;rw[hs] at h2;exact h2
 obtain⟨i,e,l1,l2⟩:=qI h3;cases e;exact⟨s,hs,h2',l1,l2,z4b<|kr (z6m hs)<|by decide,Q8 h2'⟩
def Z4{x:V}(h:qk "mark" x=true):∃m:Int,x=.int m/\0<=m/\m<=99:=by
 have e:qk "mark" x=z6v x:=by
  unfold qk;rw[ky vW,ky vW,ky vW,ky vW,kz rfl]
 rw[e] at h;exact qI h
noncomputable def labP(m:Int)(r:Row):Bool:=decide (r.op="label")&&decide (r.arg=.int m)
noncomputable def zA(rs:List Row)(m:Int):Option Nat:=rs.findIdx? (labP m)
noncomputable def jF(rs:List Row)(i:Nat)(r:Row):Bool:=
 if r.op="label" then (match r.arg with|.int m=>decide (zA rs m=some i)|_=>false)
 else if zx r.op=some ("mark":Str) then (match r.arg with|.int m=>(zA rs m).isSome|_=>false) else true
def jN(kvs:List (Key × V))(rs:List Row):Prop:=∀m:Int,valV kvs (Sum.inl m:Key)=Option.map (fun i:Nat=>V.int (i:Int)) (zA rs m)
section
inductive z0M(K:ku)(vs:List V)(H:Hp)(Q:VK)(E:XK):Prop
|mk (l:_) (as:_) (rs:_):vs=[.ref l]->SqL K H l (as.map V.ref)->zI H as rs->(∀r∈rs,jX r)->rs.length<=1000->(∀d kvs H',H d=none->Same H H'->H' d=some (.dK kvs)->jN kvs rs->Q (.ref d) H')->z0M K vs H Q E
def sc29:zj ["rows","places","place","row"] ["rows"] (zc<|top 29):=fsM
def ZJ{α:Type}{l:List α}{i:Nat}{x:α}(h:l[i]?=some x):l.take (i+1)=l.take i++[x]:=by
 rw[List.take_add_one,h];rfl
def jK{rs:List Row}{i:Nat}{r:Row}(h:rs[i]?=some r)(m:Int):zA (rs.take (i+1)) m=(zA (rs.take i) m).or (if labP m r=true then some i else none):=by
 have hl:(rs.take i).length=i:=by
  rw[vq];have:=(kh.mp h).1
  lia
 unfold zA;rw[ZJ h,List.findIdx?_append,hl];congr 1
 rw[List.findIdx?_cons];by_cases c:labP m r=true
 ·rw[kz c,kz c];simp
 ·rw[ky c,ky c];simp
abbrev Fc(P:Program)(w:World)(K:PySem.W.Frag)(mg:Str->Option Ab)(base:Heap):=FN P w K mg base 7 "label_places" ["rows"] (z0M K)
def z8U(D:zn K mg "label_places" (top 29))(G:Glo mg)(FR:FN P w K mg base 6 "is_row" Vc z5S):Fc P w K mg base:=by
 refine FN.o D sc29 ?_;rintro _ _ _ _ _ H _ _ _ hr ⟨l,as,rs,rfl,hS,hR,hok,hlen,q⟩;refine⟨_,z6 (zM 1 sc29.nd QN)
  (z6 (qQ vo rfl (z0a rfl G.enumerate<|pa1<|pv 0) (Z7 rfl<|zu (zL 2 sc29.nd)<|zu (zL 3 sc29.nd) qt)
   (z8 (zV (PW.pt<|z2w (qH<|zk FR hr rfl<|pa1<|pv 3)<|z06<|zo qX (zG qg (pv 3) zb) zh<|zy _)
    (z8<|zi<|J4 (pv 1) (zG qg (pv 3) zb) (pv 2) ⟨rfl,rfl,rfl,rfl⟩) zC)))
  (z8<|zl<|pv 1)),?_⟩
 symm
 intro d hd;have hll:as.length=rs.length:=hR.len;have hml:(as.map V.ref).length=rs.length:=by rw[kl];exact hll
 refine⟨l,rfl,⟨_,(ze hd _).seq hS⟩,QO (K:=K) (a:=l) (xs:=as.map V.ref) (fun i σ H2=>∃kvs v2 v3,σ=[some<|.ref l,some<|.ref d,v2,v3]/\Same H H2/\H2 d=some (.dK kvs)/\kvs.length<=i/\jN kvs (rs.take i))
  ⟨[],none,none,rfl,ze hd _,z7,kg _,fun m=>by rw[List.take_zero];rfl⟩ (fun i σ H2 _ zz=>by obtain⟨_,_,_,_,s2,_⟩:=zz;exact s2.seq hS) ?_ ?_⟩
 ·rintro i x σ H2 p hi ⟨kvs,v2,v3,rfl,s2,hD,hk,hL⟩ hp;obtain⟨a,r,rfl,hr1,ha⟩:=(hR.same s2).get hi;have hil:i < rs.length:=(kh.mp hr1).1;have npd:d≠p:=zd hD hp;have nap:a≠p:=zd ha hp;have ha':(upd H2 p<|.tup [.int i,.ref a]) a=some (.tup<|tupV r):=by rw[zg nap];exact ha
  have s3:Same H (upd H2 p<|.tup [.int i,.ref a]):=fun b o e=>by rw[zg<|zd (s2 b o e) hp];exact s2 b o e
  obtain⟨so,hs,hfit,hl0,hl1,hop,hsc⟩:=(hok r<|kH hr1).parts;have hrow:rowV r.op r.arg (.int r.line)=true:=hok r (kH hr1);refine⟨p,_,rfl,SqT.of z7,rfl,_,_,rfl,_,_,rfl,rfl,?_⟩;refine (.inr ⟨a,r.op,r.arg,.int r.line,rfl,ha',hop,hsc,.int _,_,rfl,?_⟩);rw[hrow];refine iteT ⟨a,_,_,_,rfl,rfl,SqT.of ha',zm (j:=0) rfl,rfl,_,rfl,?_⟩;have hD':(upd H2 p<|.tup [.int i,.ref a]) d=some (.dK kvs):=by rw[zg npd];exact hD
  refine ite2 (fun c=>?_) (fun c=>?_)
  ·have eop:r.op="label":=by
    have:=kD c
    injection this
   have esort:so="mark":=by
    rw[eop] at hs;have:zx "label"=some "mark":=vW
    rw[this] at hs;exact (kC hs).symm
   rw[esort] at hfit;obtain⟨m,em,_,_⟩:=Z4 hfit;refine⟨d,rfl,.inl ⟨kvs,.inl hD'⟩,a,_,_,_,rfl,rfl,SqT.of ha',zm (j:=1) rfl,kvs,Sum.inl m,hD',em,zF (by lia),?_⟩;have eP:labP m r=true:=by unfold labP;rw[eop,em];simp
   cases hv:valV kvs (Sum.inl m:Key) with
  |some v=>
    refine⟨kvs,_,_,rfl,s3,hD',by lia,fun m'=>?_⟩;rw[jK hr1 m',hL m'];by_cases e:m'=m
    ·subst e;have:=hL m'
     rw[hv] at this;cases h1:zA (rs.take i) m' with
    |none=>rw[h1] at this;cases this
    |some j=>rfl
    ·have:labP m' r=false:=by
      unfold labP;rw[em];have:¬(V.int m=V.int m'):=fun z=>e (by injection z with z;exact z.symm)
      simp[this]
     rw[this];simp
  |none=>
    refine⟨putK kvs (Sum.inl m)<|.int i,_,_,rfl,fun b o e=>?_,z7,?_,fun m'=>?_⟩
    ·rw[zg<|zd e hd];exact s3 b o e
    ·have:=qm kvs (Sum.inl m:Key) (V.int i)
     lia
    ·rw[Zl,jK hr1 m'];by_cases e:m'=m
     ·subst e;have:=hL m'
      rw[hv] at this;rw[kz rfl,eP,kz rfl];cases h1:zA (rs.take i) m' with
     |none=>rfl
     |some j=>rw[h1] at this;cases this
     ·have:labP m' r=false:=by
       unfold labP;rw[em];have:¬(V.int m=V.int m'):=fun z=>e (by injection z with z;exact z.symm)
       simp[this]
      rw[this,ky (fun z=>e<|by injection z),hL m'];simp
  ·refine⟨kvs,_,_,rfl,s3,hD',by lia,fun m'=>?_⟩;rw[jK hr1 m',hL m'];have:labP m' r=false:=by
    unfold labP;have:¬(r.op="label"):=fun z=>c (by rw[z];rfl)
    simp[this]
   rw[this];simp
 ·rintro σ H2 ⟨kvs,v2,v3,rfl,s2,hD,hk,hL⟩;refine (q d kvs H2 hd s2 hD ?_);rw[hml,vC] at hL;exact hL
end
section
inductive z41(vs:List V)(H:Hp)(Q:VK)(E:XK):Prop
|mk (a:_) (i:_) (d:_) (r:_) (kvs:_) (rs:_):vs=[.ref a,.int (i:Nat),.ref d]->H a=some (.tup<|tupV r)->jX r->H d=some (.dK kvs)->jN kvs rs->(∀m:Int,r.op="label"->r.arg=.int m->(zA rs m).isSome=true)->Q (.bl<|jF rs i r) H->z41 vs H Q E
def sc30:zj ["row","place","labels","op","mark"] ["row","place","labels"] (zc<|top 30):=fsM
def j4:zx "label"=some "mark":=vW
def z1i(D:zn K mg "mark_fits" (top 30))(FS:Fb P w K mg base):FN P w K mg base 2 "mark_fits" ["row","place","labels"] z41:=by
 refine FN.o D sc30 ?_;rintro _ _ _ _ _ H _ _ _ hr ⟨a,i,d,r,kvs,rs,rfl,ha,hok,hd,hL,hlab,q⟩;have hu:=z0u hr;obtain⟨so,hs,hfit,hl0,hl1,hop,hsc⟩:=hok.parts;refine⟨_,z6 (J0 (i:=3) (j:=4) rfl sc30.nd rfl rfl (by decide) rfl rfl (pa2 (zG qg (pv 0) zb)<|zG qg (pv 0) zb) rfl)
  (z6 (zV (zo qX (pv 3) zh<|zy _) (z8<|zl<|jj qX (ZC hu (pv 2) (pv 4) fun _ _=>rfl) (pv 1)<|zy _) zC)
  (z8<|zl<|z9Z (jj z8g (zk FS hr rfl<|pa1<|pv 3) zh<|zy _)<|qZ<|z7x<|za4 hu (pv 4)<|pv 2)),?_⟩
 symm
 refine⟨a,_,_,_,rfl,rfl,SqT.of ha,zm (j:=0) rfl,a,_,_,_,rfl,rfl,SqT.of ha,zm (j:=1) rfl,_,_,rfl,?_⟩;refine⟨rfl,_,rfl,?_⟩;refine ite2 (fun c=>?_) (fun c=>?_)
 ·have eop:r.op="label":=by
   have:=kD c
   injection this
  have esort:so="mark":=by
   rw[eop,j4] at hs;exact (kC hs).symm
  rw[esort] at hfit;obtain⟨m,em,_,_⟩:=Z4 hfit;obtain⟨j,hj⟩:=Ag.mp (hlab m eop em);have hv:valV kvs (Sum.inl m:Key)=some (.int (j:Int)):=by rw[hL m,hj];rfl
  have hg:DGet H d r.arg (some<|.int (j:Int)):=by rw[em,<-hv];exact DGet.k (k:=Sum.inl m) hd
  refine⟨d,_,rfl,hg,rfl,?_⟩;have e:jF rs i r=decide (V.int (j:Int)=V.int (i:Int)):=by
   unfold jF;rw[kz eop,em];show decide (zA rs m=some i)=_;rw[hj];by_cases z:j=i
   ·subst z;simp
   ·rw[ki (fun y=>z<|by injection y),ki fun y=>z<|by injection y with y;lia]
  rw[e] at q;exact q
 ·have eop:¬r.op="label":=fun z=>c (by rw[z];rfl)
  refine⟨r.op,so,rfl,hs,rfl,_,rfl,?_⟩;unfold jF at q;rw[ky eop,hs] at q;by_cases e:so="mark"
  ·subst e;rw[kz rfl] at q;obtain⟨m,em,_,_⟩:=Z4 hfit;have e1:(!decide (V.str "mark"=V.str "mark"))=false:=vW;rw[e1];refine iteF ⟨d,Option.map (fun i:Nat=>V.int (i:Int))<|zA rs m,rfl,?_,?_⟩
   ·have:DGet H d r.arg (Option.map (fun i:Nat=>V.int (i:Int))<|zA rs m):=by
     rw[em,<-hL m];exact DGet.k (k:=Sum.inl m) hd
    exact this
   ·rw[em] at q;rw[Option.isSome_map];exact q
  ·rw[ky fun z=>e<|kC z] at q;have e1:(!decide (V.str so=V.str "mark"))=true:=by
    rw[ki fun z=>e<|by injection z];rfl
   rw[e1];exact iteT q
inductive z7Y(K:ku)(vs:List V)(H:Hp)(Q:VK)(E:XK):Prop
|mk (l:_) (as:_) (rs:_):vs=[.ref l]->SqL K H l (as.map V.ref)->zI H as rs->(∀r∈rs,jX r)->rs.length<=1000->(∀H',Same H H'->(∀i r,rs[i]?=some r->jF rs i r=true)->Q .non H')->(∀(i:Nat) r H',Same H H'->rs[i]?=some r->jF rs i r=false->(∀j r',j < i->rs[j]?=some r'->jF rs j r'=true)->Q (.int i) H')->z7Y K vs H Q E
def sc31:zj ["rows","labels","place","row"] ["rows"] (zc<|top 31):=fsM
def z24{rs:List Row}{i:Nat}{r:Row}{m:Int}(h:rs[i]?=some r)(h1:r.op="label")(h2:r.arg=.int m):(zA rs m).isSome=true:=by
 unfold zA;rw[List.findIdx?_isSome,List.any_eq_true];exact⟨r,kH h,by unfold labP;rw[h1,h2];simp⟩
def zaW(D:zn K mg "first_bad_place" (top 31))(G:Glo mg)(FR:FN P w K mg base 6 "is_row" Vc z5S)(FL:Fc P w K mg base)(FM:FN P w K mg base 2 "mark_fits" ["row","place","labels"] z41):
  FN P w K mg base 8 "first_bad_place" ["rows"] (z7Y K):=by
 refine FN.o D sc31 ?_;rintro _ _ _ _ _ _ _ _ _ hr ⟨l,as,rs,rfl,hS,hR,hok,hlen,q1,q2⟩;refine⟨_,z6 (zM 1 sc31.nd<|zk FL hr rfl<|pa1<|pv 0)
  (z6 (qQ vo rfl (z0a rfl G.enumerate<|pa1<|pv 0) (Z7 rfl<|zu (zL 2 sc31.nd)<|zu (zL 3 sc31.nd) qt)
   (z8 (zV (PW.pt<|QZ (jw<|qH<|zk FR (hr.mono<|by decide) rfl<|pa1<|pv 3)<|Zu<|jw<|qH<|zk FM (hr.mono<|by decide) rfl<|pa3 (pv 3) (pv 2)<|pv 1)
    (z8<|zl<|pv 2) zC)))
  (z8<|zl qR)),?_⟩
 symm
 refine⟨l,as,rs,rfl,hS,hR,hok,hlen,fun d kvs H1 hd0 s1 hD hL=>?_⟩;have hll:as.length=rs.length:=hR.len;have hml:(as.map V.ref).length=rs.length:=by rw[kl];exact hll
 refine⟨l,rfl,⟨_,s1.seq hS⟩,QO (K:=K) (a:=l) (xs:=as.map V.ref) (fun i σ H2=>∃v2 v3,σ=[some<|.ref l,some<|.ref d,v2,v3]/\Same H1 H2/\∀j r',j < i->rs[j]?=some r'->jF rs j r'=true)
  ⟨none,none,rfl,Same.refl _,fun j _ hj=>vd hj<|Nat.not_lt_zero _⟩ (fun i σ H2 _ zz=>by obtain⟨_,_,_,s2,_⟩:=zz;exact s2.seq (s1.seq hS)) ?_ ?_⟩
 ·rintro i x σ H2 p hi ⟨v2,v3,rfl,s2,hall⟩ hp;obtain⟨a,r,rfl,hr1,ha⟩:=((hR.same s1).same s2).get hi;have hD2:=s2 _ _ hD;have npd:d≠p:=zd hD2 hp;have nap:a≠p:=zd ha hp;have ha':(upd H2 p<|.tup [.int i,.ref a]) a=some (.tup<|tupV r):=by rw[zg nap];exact ha
  have hD':(upd H2 p<|.tup [.int i,.ref a]) d=some (.dK kvs):=by rw[zg npd];exact hD2
  have s3:Same H1 (upd H2 p<|.tup [.int i,.ref a]):=fun b o e=>by rw[zg<|zd (s2 b o e) hp];exact s2 b o e
  have hro:=hok r (kH hr1);obtain⟨so,hs,hfit,hl0,hl1,hop,hsc⟩:=hro.parts;refine⟨p,_,rfl,SqT.of z7,rfl,_,_,rfl,_,_,rfl,rfl,?_⟩;refine (.inr ⟨a,r.op,r.arg,.int r.line,rfl,ha',hop,hsc,.int _,_,rfl,?_⟩);have hrow:rowV r.op r.arg (.int r.line)=true:=hro;rw[hrow];refine iteF ⟨a,i,d,r,kvs,rs,rfl,ha',hro,hD',hL,(fun m h1 h2=>z24 hr1 h1 h2),_,rfl,?_⟩;cases hb:jF rs i r with
 |true=>
   refine iteF ⟨_,_,rfl,s3,fun j r' hj hr'=>?_⟩;by_cases e:j=i
   ·subst e;rw[hr1] at hr';cases hr';exact hb
   ·exact hall j r' (by lia) hr'
 |false=>exact iteT (q2 i r _ (s1.trans s3) hr1 hb hall)
 ·rintro σ H2 ⟨v2,v3,rfl,s2,hall⟩;refine q1 H2 (s1.trans s2) fun i r hir=>hall i r ?_ hir
  rw[hml];exact (kh.mp hir).1
inductive z7V(vs:List V)(H:Hp)(Q:VK)(E:XK):Prop
|mk (l:_) (xs:_):vs=[.ref l]->H l=some (.lst xs)->1<=xs.length->xs.length<=150->Q (.bl true) H->z7V vs H Q E
def sc32:zj ["thing"] ["thing"] (zc<|top 32):=fsM
def zaQ(D:zn K mg "has_places" (top 32))(G:Glo mg):FN P w K mg base 1 "has_places" Vc z7V:=by
 refine FN.o D sc32 ?_;rintro _ _ _ _ _ H _ Q _ _ ⟨l,xs,rfl,hl,h1,h2,q⟩;refine⟨_,z8 (zl (qS (zq zZ rfl G.isinstance zD<|pa2 (pv 0)<|ZS "list" rfl G.list Jn)
  (qZ<|z0c z1X z1X zb (zq zr rfl G.len zK<|pa1<|pv 0)<|qU rfl G.rows))),?_⟩
 symm
 refine⟨_,"list",_,true,rfl,.lst hl,rfl,_,rfl,iteT ?_⟩;refine⟨l,_,rfl,.inl<|SqL.of hl,_,_,rfl,rfl,_,rfl,?_⟩;have e1:decide ((1:Int)<=(xs.length:Int))=true:=kj (by lia);have e2:decide ((xs.length:Int)<=150)=true:=kj (by lia);rw[e1];refine iteT ⟨_,_,rfl,rfl,?_⟩;show Q (.bl<|decide ((xs.length:Int)<=150)) H;rw[e2];exact q
structure Code(rs:List Row):Prop where
 ok:∀r∈rs,jX r
 fit:∀i r,rs[i]?=some r->jF rs i r=true
 lo:1<=rs.length
 hi:rs.length<=150
inductive z1K(vs:List V)(H:Hp)(Q:VK)(E:XK):Prop
|mk (l:_) (as:_) (rs:_):vs=[.ref l]->H l=some (.lst<|as.map V.ref)->zI H as rs->Code rs->(∀H',Same H H'->Q .non H')->z1K vs H Q E
def sc33:zj ["thing","place"] ["thing"] (zc<|top 33):=fsM
def z77(D:zn K mg "check_code" (top 33))(FH:FN P w K mg base 1 "has_places" Vc z7V)(FB:FN P w K mg base 8 "first_bad_place" ["rows"] (z7Y K)):FN P w K mg base 9 "check_code" Vc z1K:=by
 refine FN.o D sc33 ?_;rintro _ _ _ _ _ _ _ _ _ hr ⟨l,as,rs,rfl,hl,hR,hC,q⟩;refine⟨_,z6 (zV (jw<|qH<|zk FH (hr.mono<|by decide) rfl<|pa1<|pv 0) jQ zC)
  (z6 (zM 1 sc33.nd<|zk FB hr rfl<|pa1<|pv 0)
  (z8<|zV (zo z0d (pv 1) qR<|zy _) jQ zC)),?_⟩
 symm
 have hll:as.length=rs.length:=hR.len;refine⟨l,_,rfl,hl,by rw[kl,hll];exact hC.lo,by rw[kl,hll];exact hC.hi,_,rfl,iteF ?_⟩;refine⟨l,as,rs,rfl,SqL.of hl,hR,hC.ok,kr hC.hi (by decide),fun H' s' _=>?_,fun i r H' s' hi hf _=>?_⟩
 ·exact⟨rfl,_,rfl,iteF<|q H' s'⟩
 ·rw[hC.fit i r hi] at hf;cases hf
end
noncomputable def jo:List (Str × Int):=[("store",1),("drop",1),("add",2),("sub",2),("mul",2),("div",2),("rest",2),("less",2),("same",2),("neg",1),("not",1),("tell",1),("iftrue",1),("iffalse",1),("ortrue",1),("orfalse",1),("return",1),("raise",1)]
noncomputable def j8:List (Str × Int):=[("push",1),("load",1),("quick",1),("copy",1),("add",1),("sub",1),("mul",1),("div",1),("rest",1),("less",1),("same",1),("neg",1),("not",1)]
noncomputable def qp:List (Str × Int):=[("try",1),("endtry",-1)]
noncomputable def jumping:List Str:=["jump","iftrue","iffalse","ortrue","orfalse"]
noncomputable def leaving:List Str:=["ortrue","orfalse"]
noncomputable def jc:List Str:=["jump","return","raise"]
noncomputable def faulting:List Str:=["load","clear","add","sub","mul","div","rest","less","neg","raise"]
noncomputable def z1b(t:List (Str × Int)):List (Str × V):=t.map fun p=>(p.1,V.int p.2)
noncomputable def tabI(t:List (Str × Int))(x:Str):Int:=(t.lookup x).getD 0
def ZY(t:List (Str × Int))(x:Str):((z1b t).lookup x).getD (.int 0)=.int (tabI t x):=by
 unfold z1b tabI;rw[Ql];cases t.lookup x <;> rfl
def KTup(K:ku)(a:Aa)(xs:List V):Prop:=
 ∃(o:Obj)(its:Array Ab)(n:Nat),K.lookup a=some o/\o.cls=.type "tuple"/\o.data=.seq its n/\its.size<=sizeLine/\Vals xs its.toList
def KTup.sq{K:ku}{a:Aa}{xs:List V}(h:KTup K a xs)(H:Hp):SqT K H a xs:=.inr h
structure z7h(w:World)(K:ku)(mg:Str->Option Ab):Prop where
 takes:∃d,mg "TAKES"=some (.ref d)/\KTab w.params K d (z1b jo)
 pushes:∃d,mg "PUSHES"=some (.ref d)/\KTab w.params K d (z1b j8)
 gput:∃d,mg "GUARDS_PUT"=some (.ref d)/\KTab w.params K d (z1b qp)
 jumping:∃a,mg "JUMPING"=some (.ref a)/\KTup K a (jumping.map V.str)
 leaving:∃a,mg "LEAVING"=some (.ref a)/\KTup K a (leaving.map V.str)
 never:∃a,mg "NEVER_ON"=some (.ref a)/\KTup K a (jc.map V.str)
 faulting:∃a,mg "FAULTING"=some (.ref a)/\KTup K a (faulting.map V.str)
 first:∃a g,mg "FIRST_STATE"=some (.ref a)/\KTup K a [.int 0,.ref g]/\KTup K g []
noncomputable def inT(x:Str)(l:List Str):Bool:=inV (.str x) (l.map V.str)
def Ji{x:Str}{l:List Str}:inT x l=true↔x∈l:=by
 unfold inT inV;rw[List.any_map,List.any_eq_true];constructor
 ·rintro⟨y,hy,e⟩;have e:(y == x)=true:=e;rw[beq_iff_eq] at e;exact e▸hy
 ·exact fun h=>⟨x,h,by show (x == x)=true;simp⟩
def Zg(l:List Str):(l.map V.str).all QF=true:=by
 rw[List.all_map,List.all_eq_true];exact fun _ _=>rfl
noncomputable def jG:List Str:=["copy","swap"]
noncomputable def qK(r:Row):Int:=if inT r.op jG=true then (match r.arg with|.int n=>n|_=>0) else tabI jo r.op
abbrev Gd:=Int × Int
def qL(H:Hp)(x:V):Option Gd->Prop
|none=>x=.non
|some g=>∃a,x=.ref a/\H a=some (.tup [.int g.1,.int g.2])
def qL.same{H H':Hp}{x:V}{og:Option Gd}(h:qL H x og)(s:Same H H'):qL H' x og:=by
 cases og with
|none=>exact h
|some g=>
  obtain⟨a,e,h⟩:=h;exact⟨a,e,s _ _ h⟩
noncomputable def Jf(r:Row)(og:Option Gd):Bool:=decide (r.op="endtry")&&og.isNone
noncomputable def jv(r:Row)(d:Int)(og:Option Gd):Bool:=match og with
|none=>false
|some g=>if r.op="copy" then false else decide ((if d - qK r > 0 then d - qK r else 0) < (if g.2 < d then g.2 else d))
def z3J{r:Row}(hok:jX r)(h:inT r.op jG=true):∃n:Int,r.arg=.int n/\1<=n/\n<=9:=by
 obtain⟨s,hs,hfit,_⟩:=hok.parts;rw[Ji] at h;rcases kE.mp h with h|h
 ·rw[h,show zx "copy"=some "copied" by trivial] at hs;cases hs;have e:qk "copied" r.arg=Qo r.arg:=by
   unfold qk;rw[ky vW,ky vW,kz rfl]
  rw[e] at hfit;exact qI hfit
 ·rw[ko.mp h,show zx "swap"=some "swapped" by trivial] at hs;cases hs;have e:qk "swapped" r.arg=Zm r.arg:=by
   unfold qk;rw[ky vW,ky vW,ky vW,kz rfl]
  rw[e] at hfit;obtain⟨n,h1,h2,h3⟩:=qI hfit;exact⟨n,h1,by lia,h3⟩
def jq{K:ku}{H H':Hp}{a:Aa}{xs:List V}(s:Same H H')(h:SqT K H a xs):SqT K H' a xs:=by
 rcases h with (h|⟨o,h⟩)|h
 ·exact .inl (.inl<|s _ _ h)
 ·exact .inl (.inr ⟨o,s _ _ h⟩)
 ·exact .inr h
section
inductive spUp(K:ku)(vs:List V)(H:Hp)(Q:VK)(E:XK):Prop
|mk (g:Aa) (as:List Aa):vs=[.ref g]->SqT K H g (as.map V.ref)->((as=[]/\Q .non H)\/∃bs a,as=bs++[a]/\Q (.ref a) H)->spUp K vs H Q E
def sc45:zj ["guards"] ["guards"] (zc<|top 45):=fsM
def zbM(D:zn K mg "uppermost" (top 45)):FN P w K mg base 1 "uppermost" ["guards"] (spUp K):=by
 refine FN.o D sc45 ?_;rintro _ _ _ _ _ _ _ _ _ _ ⟨g,as,rfl,hS,q⟩;refine⟨_,z8<|zl<|j9 (z07 (pv 0) fun _=>rfl) (zG qg (pv 0)<|Qi jO zb) qR,?_⟩
 symm
 rcases q with ⟨rfl,q⟩|⟨bs,a,rfl,q⟩
 ·exact⟨false,.inr<|.inl ⟨_,hS,rfl⟩,iteF q⟩
 ·refine⟨true,.inr<|.inl ⟨_,hS,by simp⟩,iteT ⟨1,rfl,g,_,_,.ref a,rfl,rfl,hS,?_,q⟩⟩;rw[kK];exact QQ _ _
inductive z01(vs:List V)(H:Hp)(Q:VK)(E:XK):Prop
|mk (a:_) (r:_):vs=[.ref a]->H a=some (.tup<|tupV r)->jX r->(∀H',Same H H'->Q (.int<|qK r) H')->z01 vs H Q E
def sc46:zj ["row","op","arg"] ["row"] (zc<|top 46):=fsM
def z78(D:zn K mg "depth_asked" (top 46))(T:z7h w K mg):FN P w K mg base 1 "depth_asked" ["row"] z01:=by
 refine FN.o D sc46 ?_;rintro _ _ _ _ _ _ _ _ _ _ ⟨a,r,rfl,ha,hok,q⟩;obtain⟨d,md,td⟩:=T.takes;refine⟨_,z6 (J0 (i:=1) (j:=2) rfl sc46.nd rfl rfl (by decide) rfl rfl (pa2 (zG qg (pv 0) zb)<|zG qg (pv 0) zb) rfl)
  (z8<|zl<|j9 (zo jb (pv 1) (zY<|pa2 zh zh) rfl) (pv 2)<|QM td rfl md (pv 1) zb ⟨rfl,rfl,rfl,rfl⟩),?_⟩
 symm
 refine⟨a,_,_,_,rfl,rfl,SqT.of ha,zm (j:=0) rfl,a,_,_,_,rfl,rfl,SqT.of ha,zm (j:=1) rfl,_,_,rfl,?_⟩;refine⟨vX,fun p hp=>?_⟩;have s1:=ze hp (.tup<|jG.map V.str);refine⟨p,_,rfl,.inr<|SqT.of (xs:=jG.map V.str) z7,rfl,Zg _,_,rfl,?_⟩;have q:=q _ s1;unfold qK at q;refine ite2 (fun c=>?_) (fun c=>?_)
 ·have c':inT r.op jG=true:=c;obtain⟨n,en,_⟩:=z3J hok c';rw[kz c',en] at q;refine (z5P (by rfl) <| ?_);rw[en];exact q
 ·have c':¬inT r.op jG=true:=c;rw[ky c'] at q;refine⟨r.op,rfl,?_⟩;rw[ZY];exact q
inductive JX(vs:List V)(H:Hp)(Q:VK)(E:XK):Prop
|mk (a:_) (r:_) (d:_):vs=[.ref a,.int d]->H a=some (.tup<|tupV r)->jX r->(∀H',Same H H'->Q (.bl<|decide (d < qK r)) H')->JX vs H Q E
def sc47:zj ["row","depth"] ["row","depth"] (zc<|top 47):=fsM
def z71(D:zn K mg "lacks_values" (top 47))(F1:FN P w K mg base 1 "depth_asked" ["row"] z01):FN P w K mg base 2 "lacks_values" ["row","depth"] JX:=by
 refine FN.o D sc47 ?_;rintro _ _ _ _ _ _ _ _ _ hr ⟨a,r,d,rfl,ha,hok,q⟩;refine⟨_,z8<|zl<|jj z0f (pv 1) (zk F1 hr rfl<|pa1<|pv 0)<|zy _,?_⟩
 symm
 exact⟨a,r,rfl,ha,hok,fun H' s'=>⟨_,_,rfl,rfl,q H' s'⟩⟩
inductive JY(vs:List V)(H:Hp)(Q:VK)(E:XK):Prop
|mk (a:_) (r:_) (gv:_) (og:_):vs=[.ref a,gv]->H a=some (.tup<|tupV r)->qL H gv og->Q (.bl<|Jf r og) H->JY vs H Q E
def sc48:zj ["row","guard"] ["row","guard"] (zc<|top 48):=fsM
def z53{H:Hp}{x:V}{og:Option Gd}(h:qL H x og):decide (x=.non)=og.isNone:=by
 cases og with
|none=>rw[show x=.non from h];rfl
|some g=>obtain⟨a,e,_⟩:=h;rw[e];rfl
def z72(D:zn K mg "lacks_guard" (top 48)):FN P w K mg base 1 "lacks_guard" ["row","guard"] JY:=by
 refine FN.o D sc48 ?_;rintro _ _ _ _ _ _ _ _ _ _ ⟨a,r,gv,og,rfl,ha,hg,q⟩;refine⟨_,z8<|zl<|qS (jj qX (zG qg (pv 0) zb) zh<|zy _)<|qZ<|jj J5 (pv 1) qR<|zy _,?_⟩
 symm
 refine⟨a,_,_,_,rfl,rfl,SqT.of ha,zm (j:=0) rfl,rfl,_,rfl,?_⟩;unfold Jf at q;rw[<-z53 hg] at q;refine ite2 (fun c=>?_) (fun c=>?_)
 ·have e:r.op="endtry":=by have:=kD c;injection this
  rw[kj e,Bool.true_and] at q;exact⟨rfl,q⟩
 ·have e:¬r.op="endtry":=fun z=>c (by rw[z];rfl)
  rw[ki e,vB] at q;exact q
inductive QX(vs:List V)(H:Hp)(Q:VK)(E:XK):Prop
|mk (a:_) (r:_) (d:_) (gv:_) (og:_):vs=[.ref a,.int d,gv]->H a=some (.tup<|tupV r)->jX r->qL H gv og->(∀H',Same H H'->Q (.bl<|jv r d og) H')->QX vs H Q E
def sc49:zj ["row","depth","guard","lowest"] ["row","depth","guard"] (zc<|top 49):=fsM
def z7e:bootBuiltins "max"=some (.builtin "max"):=vW
def z7d:bootBuiltins "min"=some (.builtin "min"):=vW
def z3G(D:zn K mg "takes_beneath" (top 49))(G:Glo mg)(F1:FN P w K mg base 1 "depth_asked" ["row"] z01):FN P w K mg base 2 "takes_beneath" ["row","depth","guard"] QX:=by
 refine FN.o D sc49 ?_;rintro _ _ _ _ _ H _ _ _ hr ⟨a,r,d,gv,og,rfl,ha,hok,hg,q⟩;refine⟨_,z6 (zV (PW.pt<|QZ (zo J5 (pv 2) qR<|zy _)<|Zu<|zo qX (zG qg (pv 0) zb) zh<|zy _) (z8<|zl Z2) zC)
  (z6 (zM 3 sc49.nd<|zq (z5A rfl) rfl G.max z7e<|pa2 zb<|zE jh (pv 1)<|zk F1 hr rfl<|pa1<|pv 0)
  (z8<|zl<|jj z0f (pv 3) (zq (z5z rfl) rfl G.min z7d<|pa2 (pv 1)<|zG qg (pv 2) zb)<|zy _)),?_⟩
 symm
 refine⟨rfl,_,rfl,?_⟩;cases og with
|none=>
  have e:gv=.non:=hg;subst e;exact iteT (iteT<|q H<|Same.refl _)
|some g=>
  obtain⟨ga,rfl,hga⟩:=hg;refine iteF ⟨a,_,_,_,rfl,rfl,SqT.of ha,zm (j:=0) rfl,rfl,_,rfl,?_⟩;unfold jv at q;refine ite2 (fun c=>?_) (fun c=>?_)
  ·have e:r.op="copy":=by have:=kD c;injection this
   simp only[kz e] at q;exact q H (Same.refl _)
  ·have e:¬r.op="copy":=fun z=>c (by rw[z];rfl)
   simp only[ky e] at q;refine⟨a,r,rfl,ha,hok,fun H' s'=>⟨_,_,rfl,rfl,_,_,rfl,?_⟩⟩;exact⟨ga,_,_,_,rfl,rfl,SqT.of<|s' _ _ hga,zm (j:=1) rfl,_,_,rfl,_,_,rfl,rfl,q H' s'⟩
end
def PS.imp{X:Cx}{st:Stmt}{t t':TS}(h:PS X st t)(hi:∀D σ H,t' D σ H->t D σ H):PS X st t':=fun vY s σ H D I q=>h vY s σ H D I (hi D σ H q)
abbrev Mv:=V × Int × Int
abbrev ZH(H:Hp):List Aa->List Mv->Prop:=Paired fun t m=>H t=some (.tup [m.1,.int m.2.1,.int m.2.2])
def ZH.same{H H':Hp}{ts:List Aa}{ms:List Mv}(h:ZH H ts ms)(k:∀a xs,H a=some (.tup xs)->H' a=some (.tup xs)):ZH H' ts ms:=Paired.mapP h fun _ _ e=>k _ _ e
def ZH.append{H:Hp}{as bs:List Aa}{rs ts:List Mv}(h:ZH H as rs)(k:ZH H bs ts):ZH H (as++bs) (rs++ts):=z2y h k
def ZH.get{H:Hp}{as:List Aa}{rs:List Mv}{i:Nat}{x:V}(h:ZH H as rs)(e:(as.map V.ref)[i]?=some x):∃a r,x=.ref a/\rs[i]?=some r/\H a=some (.tup [r.1,.int r.2.1,.int r.2.2]):=z4j h e
noncomputable def qG(r:Row)(d:Int):Int:=d - tabI jo r.op+tabI j8 r.op
noncomputable def labV(rs:List Row)(m:Int):V:=match zA rs m with
|some j=>.int (j:Nat)
|none=>.non
noncomputable def argM(x:V):Int:=match x with
|.int m=>m
|_=>0
noncomputable def mv1(r:Row)(place:Nat)(d:Int):List Mv:=if inT r.op jc=true then [] else [(.int ((place:Int)+1),qG r d,tabI qp r.op)]
noncomputable def mv2(rs:List Row)(r:Row)(d:Int):List Mv:=if inT r.op jumping=true then [(labV rs<|argM r.arg,if inT r.op leaving=true then d else qG r d,0)] else []
noncomputable def mv3(rs:List Row)(r:Row)(og:Option Gd):List Mv:=if inT r.op faulting=true then (match og with|some g=>[(labV rs g.1,g.2+1,-1)]|none=>[]) else []
noncomputable def ji(rs:List Row)(place:Nat)(r:Row)(d:Int)(og:Option Gd):List Mv:=if decide (d < qK r)=true then [] else if Jf r og=true then [] else mv1 r place d++mv2 rs r d++mv3 rs r og
def z6C{rs:List Row}{i:Nat}{r:Row}(hc:Code rs)(hr:rs[i]?=some r)(h:inT r.op jumping=true):∃(m:Int)(j:Nat),r.arg=.int m/\zA rs m=some j:=by
 have hok:=hc.ok r (kH hr);obtain⟨s,hs,hfit,_⟩:=hok.parts;have hm:zx r.op=some ("mark":Str)/\r.op≠"label":=by
  rw[Ji] at h;have all:∀x∈jumping,zx x=some ("mark":Str)/\x≠"label":=vW;exact all _ h
 rw[hm.1] at hs;cases hs;obtain⟨m,em,_,_⟩:=Z4 hfit;have hf:=hc.fit i r hr;unfold jF at hf;rw[ky hm.2,kz hm.1,em] at hf;obtain⟨j,hj⟩:=Ag.mp hf;exact⟨m,j,em,hj⟩
def sMv(σ0:Aa->L2.St)(Hin:Hp)(new:List Mv):TS:=fun D σ H=>∃(fa:Aa)(ts:List Aa)(ms:List Mv),σ=σ0 fa/\Hin fa=none/\Same Hin H/\H fa=some (.lst<|ts.map V.ref)/\ZH H ts ms/\ts.length<=100/\
 ∀H' ts',Same Hin H'->H' fa=some (.lst<|ts'.map V.ref)->ZH H' ts' (ms++new)->ts'.length<=ts.length+1->D.nx (σ0 fa) H'
def z4J{Hin H:Hp}{fa p:Aa}{ts:List Aa}{ms:List Mv}{m:Mv}(hn:Hin fa=none)(sm:Same Hin H)(hf:H fa=some (.lst<|ts.map V.ref))(hM:ZH H ts ms)(hp:H p=none):
  Same Hin (upd (upd H p<|.tup [m.1,.int m.2.1,.int m.2.2]) fa<|.lst (ts.map V.ref++[.ref p]))/\upd (upd H p<|.tup [m.1,.int m.2.1,.int m.2.2]) fa (.lst (ts.map V.ref++[.ref p])) fa=some (.lst<|(ts++[p]).map V.ref)/\
   ZH (upd (upd H p<|.tup [m.1,.int m.2.1,.int m.2.2]) fa<|.lst (ts.map V.ref++[.ref p])) (ts++[p]) (ms++[m]):=by
 have npf:p≠fa:=(zd hf hp).symm;have kt:∀a xs,(upd H p<|.tup [m.1,.int m.2.1,.int m.2.2]) a=some (.tup xs)->(upd (upd H p<|.tup [m.1,.int m.2.1,.int m.2.2]) fa<|.lst (ts.map V.ref++[.ref p])) a=some (.tup xs):=fun a xs e=>by
  rw[zg fun z=>by rw[z,zg npf.symm,hf] at e;cases e];exact e
 refine⟨fun b o e=>?_,?_,ZH.append ((hM.same fun a xs e=>?_).same kt)<|.cons ?_ .nil⟩
 ·have e2:=sm b o e;rw[zg<|zd e hn,zg<|zd e2 hp];exact e2
 ·rw[z7,kK];rfl
 ·rw[zg<|zd e hp];exact e
 ·exact kt _ _ z7
section
structure QA(K:ku)(H:Hp)(l d:Aa)(rs:List Row):Prop where
 rows:∃as,SqL K H l (as.map V.ref)/\zI H as rs
 code:Code rs
 labs:∃kvs,H d=some (.dK kvs)/\jN kvs rs
def zI.get'{H:Hp}{as:List Aa}{rs:List Row}{i:Nat}{r:Row}(h:zI H as rs)(e:rs[i]?=some r):∃a,(as.map V.ref)[i]?=some (.ref a)/\H a=some (.tup<|tupV r):=by
 have hi:i < rs.length:=(kh.mp e).1;obtain⟨a,r',h1,h2,h3⟩:=zI.get (i:=i) (x:=(as.map V.ref)[i]'(by rw[kl,h.len];exact hi)) h (kL _);rw[e] at h2;cases h2;exact⟨a,by rw[<-h1];exact kL _,h3⟩
inductive JW(K:ku)(vs:List V)(H:Hp)(Q:VK)(E:XK):Prop
|mk (l:_) (d:_) (place:_) (dep:_) (gv:_) (og:_) (rs:_) (r:_):vs=[.ref l,.ref d,.int (place:Nat),.int dep,gv]->QA K H l d rs->rs[place]?=some r->qL H gv og->(∀f ts H',Same H H'->H f=none->H' f=some (.lst<|ts.map V.ref)->ZH H' ts (ji rs place r dep og)->Q (.ref f) H')->JW K vs H Q E
def sc50:zj ["code","labels","place","depth","guard","row","op","arg","behind","found"] ["code","labels","place","depth","guard"] (zc<|top 50):=fsM
def z6Z(D:zn K mg "moves" (top 50))(T:z7h w K mg)(FV:FN P w K mg base 2 "lacks_values" ["row","depth"] JX)(FG:FN P w K mg base 1 "lacks_guard" ["row","guard"] JY):
  FN P w K mg base 3 "moves" Vg (JW K):=by
 refine FN.o D sc50 ?_;rintro _ _ _ _ _ H _ Q _ hr ⟨l,d,place,dep,gv,og,rs,r,rfl,hC,hrp,hg,q⟩;have hu:=z0u hr;obtain⟨⟨as,hS,hR⟩,hc,kvs,hd,hL⟩:=id hC;obtain⟨ra,hra,har⟩:=hR.get' hrp;have hro:=hc.ok r (kH hrp);obtain⟨d1,md1,td1⟩:=T.takes;obtain⟨d2,md2,td2⟩:=T.pushes;obtain⟨d3,md3,td3⟩:=T.gput;obtain⟨a1,ma1,ta1⟩:=T.never;obtain⟨a2,ma2,ta2⟩:=T.jumping;obtain⟨a3,ma3,ta3⟩:=T.leaving;obtain⟨a4,ma4,ta4⟩:=T.faulting
 let σ0:Aa->L2.St:=fun fa=>[some<|.ref l,some<|.ref d,some<|.int (place:Nat),some<|.int dep,some gv,some<|.ref ra,some<|.str r.op,some r.arg,some<|.int<|qG r dep,some<|.ref fa]
 refine⟨_,z6 (zM 5 sc50.nd<|zG zH (pv 0)<|pv 2)
  (z6 (J0 (i:=6) (j:=7) rfl sc50.nd rfl rfl (by decide) rfl rfl (pa2 (zG qg (pv 5) zb)<|zG qg (pv 5) zb) rfl)
  (z6 (zV (PW.pt<|QZ (qH<|zk FV hr rfl<|pa2 (pv 5)<|pv 3)<|Zu<|qH<|zk FG (hr.mono<|by decide) rfl<|pa2 (pv 5)<|pv 4) (z8<|zl<|zO qC) zC)
  (z6 (zM 8 sc50.nd<|zE qT (zE jh (pv 3)<|QM td1 rfl md1 (pv 6) zb ⟨rfl,rfl,rfl,rfl⟩)<|QM td2 rfl md2 (pv 6) zb ⟨rfl,rfl,rfl,rfl⟩)
  (z6 (zM 9 sc50.nd<|zO qC)
  (z6 (PS.imp (t':=sMv σ0 H (mv1 r place dep)) (zV (zo Qw (pv 6) (Z1 rfl ma1 (v:=.ref a1) rfl) rfl) (z8 (zi (jS (pv 9)
    (pa1<|zY<|pa3 (zE qT (pv 2) zb) (pv 8)<|QM td3 rfl md3 (pv 6) zb ⟨rfl,rfl,rfl,rfl⟩)))) zC) ?m1)
  (z6 (PS.imp (t':=sMv σ0 H (mv2 rs r dep)) (zV (zo jb (pv 6) (Z1 rfl ma2 (v:=.ref a2) rfl) rfl) (z8 (zi (jS (pv 9)
    (pa1<|zY<|pa3 (ZC hu (pv 1) (pv 7) fun _ _=>rfl) (j9 (zo jb (pv 6) (Z1 rfl ma3 (v:=.ref a3) rfl) rfl) (pv 3)<|pv 8) zb)))) zC) ?m2)
  (z6 (PS.imp (t':=sMv σ0 H (mv3 rs r og)) (zV (PW.pt<|z2w (zo jb (pv 6) (Z1 rfl ma4 (v:=.ref a4) rfl) rfl)<|z06<|zo z0d (pv 4) qR<|zy _) (z8 (zi (jS (pv 9)
    (pa1<|zY<|pa3 (z6e hu (pv 1) (zG qg (pv 4) zb) ⟨rfl,rfl,rfl,rfl⟩) (zE qT (zG qg (pv 4) zb) zb)<|Qi jO zb)))) zC) ?m3)
  (z8<|zl<|pv 9)))))))),?_⟩
 symm
 case m1=>
  rintro D σ H1 ⟨fa,ts,ms,rfl,hn,sm,hf,hM,hl,k⟩;refine⟨a1,_,rfl,.inr<|ta1.sq _,rfl,Zg _,_,rfl,?_⟩;unfold mv1 at k;refine ite2 (fun c=>?_) (fun c=>?_)
  ·have c':¬inT r.op jc=true:=by
    intro z;have c:(!inT r.op jc)=true:=c;rw[z] at c;cases c
   rw[ky c'] at k;refine⟨.inl ⟨rfl,_,SqL.of hf⟩,_,_,rfl,rfl,r.op,rfl,vX,fun p hp=>?_⟩;rw[ZY];obtain⟨k1,k2,k3⟩:=z4J (m:=(.int ((place:Int)+1),qG r dep,tabI qp r.op)) hn sm hf hM hp;exact⟨fa,_,.ref p,rfl,rfl,by rw[zg<|zd hf hp];exact hf,zF (by rw[kl];lia),k _ _ k1 k2 k3<|by simp⟩
  ·have c':inT r.op jc=true:=by
    cases z:inT r.op jc with
   |true=>rfl
   |false=>exact vd (show (!inT r.op jc)=true by rw[z];rfl) c
   rw[kz c'] at k;exact k H1 ts sm hf (by rw[kW];exact hM) (by lia)
 case m2=>
  rintro D σ H1 ⟨fa,ts,ms,rfl,hn,sm,hf,hM,hl,k⟩;refine⟨a2,_,rfl,.inr<|ta2.sq _,rfl,Zg _,_,rfl,?_⟩;unfold mv2 at k;refine ite2 (fun c=>?_) (fun c=>?_)
  ·have c':inT r.op jumping=true:=c;rw[kz c'] at k;obtain⟨m,j,em,hj⟩:=z6C hc hrp c';have hv:valV kvs (Sum.inl m:Key)=some (.int (j:Int)):=by rw[hL m,hj];rfl
   have hgt:DGet H1 d r.arg (some<|.int (j:Int)):=by rw[em,<-hv];exact DGet.k (k:=Sum.inl m) (sm _ _ hd)
   refine⟨.inl ⟨rfl,_,SqL.of hf⟩,d,_,rfl,hgt,a3,_,rfl,.inr<|ta3.sq _,rfl,Zg _,_,rfl,?_⟩;have el:labV rs (argM r.arg)=.int (j:Nat):=by
    rw[em];show labV rs m=_;unfold labV;rw[hj]
   rw[el] at k;have fin:∀x:Int,(if inT r.op leaving=true then dep else qG r dep)=x->∀p,H1 p=none->z05 (.ref fa) [.ref p] (upd H1 p<|.tup [.int (j:Nat),.int x,.int 0]) (fun _ H2=>D.nx (σ0 fa) H2):=fun x ex p hp=>by
    rw[ex] at k;obtain⟨k1,k2,k3⟩:=z4J (m:=(.int (j:Nat),x,0)) hn sm hf hM hp;exact⟨fa,_,.ref p,rfl,rfl,by rw[zg<|zd hf hp];exact hf,zF (by rw[kl];lia),k _ _ k1 k2 k3<|by simp⟩
   refine ite2 (fun c2=>?_) (fun c2=>?_)
   ·have c2':inT r.op leaving=true:=c2;exact⟨vX,fin dep<|kz c2'⟩
   ·have c2':¬inT r.op leaving=true:=c2;exact⟨vX,fin _<|ky c2'⟩
  ·have c':¬inT r.op jumping=true:=c;rw[ky c'] at k;exact k H1 ts sm hf (by rw[kW];exact hM) (by lia)
 case m3=>
  rintro D σ H1 ⟨fa,ts,ms,rfl,hn,sm,hf,hM,hl,k⟩;refine⟨a4,_,rfl,.inr<|ta4.sq _,rfl,Zg _,_,rfl,?_⟩;unfold mv3 at k;refine ite2 (fun c=>?_) (fun c=>?_)
  ·have c':inT r.op faulting=true:=c;rw[kz c'] at k;have hg1:=hg.same sm;refine⟨rfl,_,rfl,?_⟩;cases og with
  |none=>
    have e:gv=.non:=hg;rw[e];exact iteF (k H1 ts sm hf (by rw[kW];exact hM)<|by lia)
  |some g=>
    obtain⟨ga,rfl,hga⟩:=hg1;rw[ki (show ¬V.ref ga=.non from nofun)];have hgt:DGet H1 d (.int g.1) (valV kvs (Sum.inl g.1:Key)):=DGet.k (k:=Sum.inl g.1) (sm _ _ hd);have ev:(valV kvs (Sum.inl g.1:Key)).getD .non=labV rs g.1:=by
     rw[hL];unfold labV;cases zA rs g.1 <;> rfl
    refine iteT ⟨.inl ⟨rfl,_,SqL.of hf⟩,d,rfl,.inl ⟨kvs,.inl<|sm _ _ hd⟩,ga,_,_,_,rfl,rfl,SqT.of hga,zm (j:=0) rfl,_,hgt,ga,_,_,_,rfl,rfl,SqT.of hga,zm (j:=1) rfl,_,_,rfl,rfl,1,rfl,vX,fun p hp=>?_⟩;rw[ev];obtain⟨k1,k2,k3⟩:=z4J (m:=(labV rs g.1,g.2+1,-1)) hn sm hf hM hp;exact⟨fa,_,.ref p,rfl,rfl,by rw[zg<|zd hf hp];exact hf,zF (by rw[kl];lia),k _ _ k1 k2 k3<|by simp⟩
  ·have c':¬inT r.op faulting=true:=c;rw[ky c'] at k;exact iteF (k H1 ts sm hf (by rw[kW];exact hM)<|by lia)
 refine⟨l,_,_,_,rfl,rfl,hS,zm hra,?_⟩;refine⟨ra,_,_,_,rfl,rfl,SqT.of har,zm (j:=0) rfl,ra,_,_,_,rfl,rfl,SqT.of har,zm (j:=1) rfl,_,_,rfl,?_⟩;refine⟨ra,r,dep,rfl,har,hro,fun H1 s1=>⟨_,rfl,?_⟩⟩;have empty:∀H2,Same H H2->ji rs place r dep og=[]->∀p,H2 p=none->Q (.ref p) (upd H2 p<|.lst []):=fun H2 s2 e p hp=>by
  refine q p [] _ (My.Same.upd s2 (s2.free hp) _) (s2.free hp) z7 ?_;rw[e];exact .nil
 unfold ji at q empty;refine ite2 (fun c=>?_) (fun c=>?_)
 ·rw[kz c] at empty;exact iteT ⟨vX,empty H1 s1 rfl⟩
 ·rw[ky c] at q empty;refine⟨ra,r,gv,og,rfl,s1 _ _ har,hg.same s1,_,rfl,?_⟩;refine ite2 (fun c2=>?_) (fun c2=>?_)
  ·rw[kz c2] at empty;exact⟨vX,empty H1 s1 rfl⟩
  ·rw[ky c2] at q;refine⟨r.op,rfl,?_⟩;rw[ZY];refine⟨_,_,rfl,rfl,r.op,rfl,?_⟩;rw[ZY];refine⟨_,_,rfl,rfl,vX,fun fa hfa=>?_⟩;have hn:=s1.free hfa;refine⟨fa,[],[],rfl,hn,My.Same.upd s1 hn _,z7,.nil,by simp,fun H3 t3 s3 f3 M3 z3=>?_⟩;refine⟨fa,t3,_,rfl,hn,s3,f3,M3,by simp at z3;lia,fun H4 t4 s4 f4 M4 z4=>?_⟩;refine⟨fa,t4,_,rfl,hn,s4,f4,M4,by simp at z3;lia,fun H5 t5 s5 f5 M5 z5=>?_⟩;exact (q fa t5 H5 s5 hn f5<|by simpa using M5)
end
def Z0{X:Cx}{pos:Pos}{K:ku}{es:List Expr}{k:Nat}{t:TGs}{n:Nat}(hK:X.K=K)(hc:X.calm=true)(h:PGs X es t)(hn:autoParam ((assignEach es X.env).length=n) aR._auto_1)(hst:autoParam ((assignEach es X.env).findIdx? (·.1)=none) aR._auto_1):PG X (.Tuple es k pos) (gTup K n t):=by
 subst hK;exact Z7 hc h hn hst
def JM{σ:L2.St}{H:Hp}{F G:Hp->Prop}(h:F H):tAll σ H (fun b H5=>if b=true then F H5 else G H5):=by
 show (if true=true then F H else G H);rw[kz rfl];exact h
def nd3:(["goal","deeper","more"]:List Str).Nodup:=vW
def nd2:(["word","is_lacking"]:List Str).Nodup:=vW
noncomputable def cpX:Stmt->Option Expr
|.Assign _ e _=>some e
|.Return e _=>e
|.If e _ _ _=>some e
|_=>none
noncomputable def cpB:Stmt->List Stmt
|.For _ _ b _ _=>b
|.While _ b _ _=>b
|.If _ b _ _=>b
|_=>[]
noncomputable def cpE:Expr->Option Expr
|.Call _ es _ _=>es.head?
|.Compare e _ _ _=>some e
|.BoolOp _ es _=>es.getLast?
|.IfExp _ _ e _=>some e
|_=>none
noncomputable def cpS:Expr->Option Scope
|.ListComp _ _ s _=>some s
|_=>none
def zT.plain{X:Cx}{N:List Str}{nt:Nat}{scope:Scope}(nofree:∀y∈scope.names,y.2≠.free)(nocell:∀y∈scope.names,y.2≠.cell)(kind:scope.kind=.function)(names:∀y∈scope.names,y.2=.local->scope.names.lookup y.1=some .local)(hl:N.length=nt):zT X N nt [] scope [] where
 clos:=closureFor_none nofree
 nocell:=nocell
 kind:=kind
 names:=names
 sub:=fun _ _ e=>nomatch e
 has:=fun x h=>by
  rw[z3d nofree] at h;rcases h with h|h
  ·exact vd h (z13 nocell x)
  ·exact vd h (z13 nofree x)
 len:=by rw[hl];rfl
 free:=fun j x e=>by
  rw[vp<|by lia] at e;cases e
def Zo{K:ku}{a:Aa}{xs:List V}{g:TG}{tc:TT}{te:TE}{R:Hp->Prop}{H:Hp}{l:Aa}{σ0:L2.St}(Pv:Nat->List V->L2.St->Hp->Prop)(h0:Pv 0 [] σ0 (upd H l<|.lst []))(hl:∀i ys σ H,i<=xs.length->Pv i ys σ H->SqL K H a xs)(hs:∀i x ys σ H,xs[i]?=some x->Pv i ys σ H->g x σ H fun σ2 H4=>tc σ2 H4 fun b H5=>if b=true then te σ2 H5 fun v H6=>H6 l=some (.lst ys)/\ys.length < sizeLine/\∃m',m' < xs.length - i/\m'=xs.length - (i+1)/\i+1<=xs.length/\Pv (i+1) (ys++[v]) σ2 (upd H6 l<|.lst (ys++[v]))
   else ∃m',m' < xs.length - i/\m'=xs.length - (i+1)/\i+1<=xs.length/\Pv (i+1) ys σ2 H5)(hd:∀ys σ H,Pv xs.length ys σ H->R H):
  ∃W:Nat->Nat->List V->L2.St->Hp->Prop,(∃m,W 0 m [] σ0<|upd H l<|.lst [])/\∀i m ys σ' H2,W i m ys σ' H2->
   ((Itl K a).stop i H2/\R H2)\/((Itl K a).go i H2/\∀x H3,(Itl K a).yld i H2 x H3->g x σ' H3 (cqS tc te l W i m ys)):=by
 refine⟨fun i m ys σ H=>m=xs.length - i/\i<=xs.length/\Pv i ys σ H,⟨xs.length,by simp,vj _,h0⟩,?_⟩;rintro i m ys σ H ⟨rfl,hi,p⟩;have q:=hl i ys σ H hi p;by_cases hlt:i < xs.length
 ·refine .inr ⟨⟨xs,xs[i],q,by simp[hlt]⟩,fun x H' y=>?_⟩;obtain⟨e,y⟩:=y;subst e;exact hs i x ys σ _ (y xs q) p
 ·have e:i=xs.length:=by lia
  subst e;exact .inl ⟨⟨xs,q,kg _⟩,hd ys σ H p⟩
def z3L{a l:Aa}{kvs:List (Key × V)}{o:Obj}{g:TG}{tc:TT}{te:TE}{Q:VK}{H:Hp}{σ0:L2.St}(Pv:Nat->List V->L2.St->Hp->Prop)(h0:Pv 0 [] σ0 (upd H l<|.lst []))(hf:∀i ys σ H,Pv i ys σ H->H a=some (.frz o<|.dK kvs))(hs:∀i p k v ys σ H,kvs[i]?=some (k,v)->Pv i ys σ H->H p=none->g (.ref p) σ (upd H p<|.tup [kV k,v]) fun σ2 H4=>tc σ2 H4 fun b H5=>if b=true then te σ2 H5 fun v H6=>H6 l=some (.lst ys)/\ys.length < sizeLine/\∃m',m' < kvs.length - i/\m'=kvs.length - (i+1)/\i+1<=kvs.length/\Pv (i+1) (ys++[v]) σ2 (upd H6 l<|.lst (ys++[v]))
   else ∃m',m' < kvs.length - i/\m'=kvs.length - (i+1)/\i+1<=kvs.length/\Pv (i+1) ys σ2 H5)(hd:∀ys σ H,Pv kvs.length ys σ H->Q (.ref l) (upd H a<|.dK kvs)):
  ∃W:Nat->Nat->List V->L2.St->Hp->Prop,(∃m,W 0 m [] σ0<|upd H l<|.lst [])/\∀i m ys σ' H2,W i m ys σ' H2->
   H2 a=some (.frz o<|.dK kvs)/\(kvs.length<=i->Q (.ref l) (upd H2 a<|.dK kvs))/\(∀p k v,kvs[i]?=some (k,v)->H2 p=none->g (.ref p) σ' (upd H2 p<|.tup [kV k,v]) (cqS tc te l W i m ys)):=by
 refine⟨fun i m ys σ H=>m=kvs.length - i/\i<=kvs.length/\Pv i ys σ H,⟨kvs.length,by simp,vj _,h0⟩,?_⟩;rintro i m ys σ H ⟨rfl,hi,p⟩;refine⟨hf i ys σ H p,fun hle=>?_,fun p' k v hkv hp=>hs i p' k v ys σ H hkv p hp⟩;have e:i=kvs.length:=by lia
 subst e;exact hd ys σ H p
noncomputable def QS(rs:List Row)(place:Nat)(r:Row)(d:Int)(og:Option Gd):List (Str × Bool):=
 [("takes",decide (d < qK r)),("guard",Jf r og),("beneath",jv r d og),("end",inV (.int (rs.length:Nat))<|(ji rs place r d og).map (·.1))]
noncomputable def QR(rs:List Row)(place:Nat)(r:Row)(d:Int)(og:Option Gd):List Str:=((QS rs place r d og).filter (·.2)).map (·.1)
def z15(rs:List Row)(m:Int):QF (labV rs m)=true:=by
 unfold labV;cases zA rs m <;> rfl
def z3p(rs:List Row)(place:Nat)(r:Row)(d:Int)(og:Option Gd):((ji rs place r d og).map (·.1)).all QF=true:=by
 rw[List.all_map,List.all_eq_true];intro m hm;unfold ji at hm;split at hm
 ·cases hm
 ·split at hm
  ·cases hm
  ·rcases kS.mp hm with hm|hm
   ·rcases kS.mp hm with hm|hm
    ·unfold mv1 at hm;split at hm
     ·cases hm
     ·rw[ko.mp hm];rfl
    ·unfold mv2 at hm;split at hm
     ·rw[ko.mp hm];exact z15 _ _
     ·cases hm
   ·unfold mv3 at hm;split at hm
    ·cases og with
    |none=>cases hm
    |some g=>rw[ko.mp hm];exact z15 _ _
    ·cases hm
noncomputable def kvs4(wb:List (Str × Bool)):List (Key × V):=wb.map fun p=>(Sum.inr p.1,V.bl p.2)
def zak(a b c d:Bool):Qx [] (kvs4 [("takes",a),("guard",b),("beneath",c),("end",d)])=kvs4 [("takes",a),("guard",b),("beneath",c),("end",d)]:=by rfl
section
inductive z1D(K:ku)(vs:List V)(H:Hp)(Q:VK)(E:XK):Prop
|mk (l:_) (d:_) (place:_) (dep:_) (gv:_) (og:_) (rs:_) (r:_):vs=[.ref l,.ref d,.int (place:Nat),.int dep,gv]->QA K H l d rs->rs[place]?=some r->qL H gv og->(∀f H',Same H H'->H f=none->H' f=some (.lst<|(QR rs place r dep og).map V.str)->Q (.ref f) H')->z1D K vs H Q E
def sc51:zj ["code","labels","place","depth","guard","row","goals","found"] ["code","labels","place","depth","guard"] (zc<|top 51):=fsM
def z6P(D:zn K mg "words_lacking" (top 51))(G:Glo mg)(FV:FN P w K mg base 2 "lacks_values" ["row","depth"] JX)(FG:FN P w K mg base 1 "lacks_guard" ["row","guard"] JY)(FB:FN P w K mg base 2 "takes_beneath" ["row","depth","guard"] QX)(FM:FN P w K mg base 3 "moves" Vg (JW K)):FN P w K mg base 4 "words_lacking" Vg (z1D K):=by
 refine FN.o D sc51 ?_;rintro _ _ _ _ _ H _ _ _ hr ⟨l,d,place,dep,gv,og,rs,r,rfl,hC,hrp,hg,q⟩;obtain⟨⟨as,hS,hR⟩,hc,kvs,hd,hL⟩:=id hC;obtain⟨ra,hra,har⟩:=hR.get' hrp;have hro:=hc.ok r (kH hrp);have hr2:=hr.mono (vW:2<=3);have hr1:=hr.mono (vW:1<=3);refine⟨_,z6 (zM 5 sc51.nd<|zG zH (pv 0)<|pv 2)
  (z6 (jZ (N:=["goal","deeper","more"]) (nt:=3) (ix:=[]) (cl:=[]) (i:=6) rfl sc51.nd rfl (Or.inl rfl) (zT.plain vW vW rfl vW rfl)
   (qy<|zk FM hr rfl<|zf (pv 0)<|zf (pv 1)<|pa3 (pv 2) (pv 3)<|pv 4)
   (fun _ _ _ _=>Z0 (K:=K) (n:=3) rfl rfl<|zu (zL 0 nd3)<|zu (zL 1 nd3)<|zu (zL 2 nd3) qt)
   (fun _ _ _ _=>qr) (fun _ _ _ _=>pv 0))
  (z6 (zM 7 sc51.nd (z4s (ZR zh (zk FV hr2 rfl<|pa2 (pv 5)<|pv 3) (ZR zh (zk FG hr1 rfl<|pa2 (pv 5)<|pv 4)
    (ZR zh (zk FB hr2 rfl<|pa3 (pv 5) (pv 3)<|pv 4)<|ZR zh (jj jb (zq zr rfl G.len zK<|pa1<|pv 0) (pv 6) rfl) z4k))) rfl rfl nofun<|by decide))
  (z8 (zl (z6f (N:=["word","is_lacking"]) (nt:=2) (ix:=[]) (cl:=[]) rfl (zT.plain vW vW rfl vW rfl) (pv 7)
   (fun _ _ _ _=>Z0 (K:=K) (n:=2) rfl rfl<|zu (zL 0 nd2)<|zu (zL 1 nd2) qt)
   (fun _ _ _ _=>z1O<|qH<|pv 1) (fun _ _ _ _=>pv 0)))))),?_⟩
 symm
 refine⟨l,_,_,_,rfl,rfl,hS,zm hra,?_⟩;refine⟨l,d,place,dep,gv,og,rs,r,rfl,hC,hrp,hg,fun ml ts H1 s1 hn1 hm1 hM1=>?_⟩;generalize hms:ji rs place r dep og=ms at hM1;refine⟨ml,rfl,⟨_,SqL.of hm1⟩,fun gl hgl=>Zo (K:=K) (a:=ml) (xs:=ts.map V.ref) (fun i ys σ H2=>(∃a b c,σ=[a,b,c])/\ys=(ms.take i).map (·.1)/\Same H1 H2/\H2 gl=some (.lst ys))
  ⟨⟨none,none,none,rfl⟩,rfl,ze hgl _,z7⟩ (fun i ys σ H2 _ zz=>by obtain⟨_,_,s2,_⟩:=zz;exact s2.seq (SqL.of hm1)) ?_ ?_⟩
 ·rintro i x ys σ H2 hi ⟨⟨a,b,c,rfl⟩,rfl,s2,hp2⟩;obtain⟨t,m,rfl,hm,ht⟩:=(hM1.same fun a xs e=>s2 _ _ e).get hi;have hil:i < ts.length:=by have:=(kh.mp hi).1;simpa using this
  have hml:ts.length=ms.length:=Paired.length hM1;refine⟨t,_,rfl,SqT.of ht,rfl,_,_,rfl,_,_,rfl,_,_,rfl,rfl,?_⟩;refine JM ⟨hp2,?_,_,?_,rfl,?_,⟨_,_,_,rfl⟩,?_,?_,z7⟩
  ·rw[kl,vq];have h1:ms.length<=3:=by
    rw[<-hms];unfold ji mv1 mv2 mv3;repeat' split
    all_goals simp
   exact zF (by lia)
  ·rw[kl];lia
  ·rw[kl];lia
  ·rw[ZJ hm,kK];rfl
  ·exact My.Same.upd s2 hgl _
 ·rintro ys σ H2 ⟨_,rfl,s2,hp2⟩;have hml:ts.length=ms.length:=Paired.length hM1;rw[kl,hml,vC] at hp2;have s02:=s1.trans s2;intro fd hfd;have hgl0:H gl=none:=s1.free hgl;have hfd0:H fd=none:=s02.free hfd;have s3:=ze hfd (.dK []);refine⟨ra,r,dep,rfl,s3 _ _<|s02 _ _ har,hro,fun H4 s4=>?_⟩;have s24:=s3.trans s4;refine⟨ra,r,gv,og,rfl,s24 _ _<|s02 _ _ har,(hg.same s02).same s24,?_⟩;refine⟨ra,r,dep,gv,og,rfl,s24 _ _<|s02 _ _ har,hro,(hg.same s02).same s24,fun H5 s5=>?_⟩;have s25:=s24.trans s5;refine⟨l,_,rfl,.inl<|s25.seq<|s02.seq hS,gl,_,rfl,.inl<|SqL.of<|s25 _ _ hp2,rfl,by rw[<-hms];exact z3p _ _ _ _ _,?_⟩;refine⟨s5 _ _<|s4 _ _ z7,kvs4<|QS rs place r dep og,?_,(by show 4<=15;decide),?_⟩
  ·unfold QS kvs4;rw[hms,kl,hR.len];rfl
  ·rw[show Qx [] (kvs4<|QS rs place r dep og)=kvs4 (QS rs place r dep og) from zak _ _ _ _];generalize hwb:QS rs place r dep og=wb;have hwl:wb.length=4:=by rw[<-hwb];rfl
   have sH5:Same H H5:=s02.trans s25;refine⟨fd,kvs4 wb,rfl,z7,fun o l2 hl2=>?_⟩;have nlf:l2≠fd:=fun z=>by rw[z,z7] at hl2;cases hl2
   have hl20:H l2=none:=sH5.free (by rw[zg nlf] at hl2;exact hl2);refine z3L (fun i ys σ H2=>(∃a b,σ=[a,b])/\ys=((wb.take i).filter (·.2)).map (fun p=>V.str p.1)/\Same H H2/\H2 l2=some (.lst ys)/\H2 fd=some (.frz o<|.dK<|kvs4 wb)) ⟨⟨none,none,rfl⟩,rfl,?_,z7,?_⟩ (fun i ys σ H2 h=>h.2.2.2.2) ?_ ?_
   ·intro b o e;rw[zg<|zd e hl20,zg<|zd e hfd0,zg<|zd e hfd0];exact sH5 _ _ e
   ·rw[zg nlf.symm];exact z7
   ·rintro i p k v ys σ H2 hi ⟨⟨a,b,rfl⟩,rfl,s2',hp2',hf2⟩ hp;have hil:i < 4:=by have:=(kh.mp hi).1;unfold kvs4 at this;rw[kl,hwl] at this;exact this
    have hkl:(kvs4 wb).length=4:=by unfold kvs4;rw[kl,hwl]
    obtain⟨pw,hpw,ek⟩:∃pw:Str × Bool,wb[i]?=some pw/\(k,v)=(Sum.inr pw.1,V.bl pw.2):=by
     unfold kvs4 at hi;rw[vh] at hi;cases e:wb[i]? with
    |none=>rw[e] at hi;cases hi
    |some pw=>rw[e] at hi;exact⟨pw,rfl,(kC hi).symm⟩
    cases ek;have npl:l2≠p:=zd hp2' hp;have npf:fd≠p:=zd hf2 hp;have sp:Same H (upd H2 p<|.tup [kV<|Sum.inr pw.1,V.bl pw.2]):=fun b o e=>by rw[zg<|zd (s2' _ _ e) hp];exact s2' _ _ e
    refine⟨p,_,rfl,SqT.of z7,rfl,_,_,rfl,_,_,rfl,rfl,pw.2,rfl,?_⟩;have efil:(wb.take (i+1)).filter (·.2)=(wb.take i).filter (·.2)++(if pw.2=true then [pw] else []):=by
     rw[ZJ hpw,List.filter_append];congr 1
     cases hh:pw.2 <;> simp[hh]
    refine ite2 (fun c=>?_) (fun c=>?_)
    ·rw[kz c] at efil;refine⟨by rw[zg npl];exact hp2',?_,_,by lia,rfl,by lia,⟨_,_,rfl⟩,?_,?_,z7,?_⟩
     ·rw[kl];have h1:=List.length_filter_le (fun p:Str × Bool=>p.2) (wb.take i);rw[vq] at h1;exact zF (by lia)
     ·rw[efil,kK];rfl
     ·exact fun b o e=>by rw[zg<|zd e hl20];exact sp _ _ e
     ·rw[zg nlf.symm,zg npf];exact hf2
    ·rw[ky c,kW] at efil;exact⟨_,by lia,rfl,by lia,⟨_,_,rfl⟩,by rw[efil],sp,by rw[zg npl];exact hp2',by rw[zg npf];exact hf2⟩
   ·rintro ys σ H2 ⟨_,rfl,s2',hp2',hf2⟩;refine q l2 _ (fun b o e=>?_) hl20 ?_
    ·rw[zg<|zd e hfd0];exact s2' _ _ e
    ·rw[zg nlf,hp2'];unfold QR;rw[hwb,show (kvs4 wb).length=wb.length by unfold kvs4;rw[kl],vC,Ak];rfl
end
def sc53:zj ["code","labels","place","state","depth","guards"] ["code","labels","place","state"] (zc<|top 53):=fsM
noncomputable def z5v:Scope:=(((cpX<|(zR<|top 53).getD 1<|.Pass ⟨0,0,0,0⟩).bind cpS).getD<|zc<|top 53)
noncomputable def cl52(L:Aa):List (Str × Aa):=[("state",L+1+1+1),("place",L+1+1),("code",L+1)]
noncomputable def nm52:List (Str × NameKind):=[(".0",.local),("goal",.local),("deeper",.local),("more",.local),("guards_behind",.globalImplicit),("code",.cell),("place",.cell),("state",.cell)]
noncomputable def N52:List Str:=["goal","deeper","more","code","place","state"]
def zb4(f:Aa)(cdv:Ab)(L:Aa):closureFor z5v (envOfC "next_states" (zc<|top 53) L f cdv)=pure (cl52 L):=by rfl
def zbr(f:Aa)(cdv:Ab)(L:Aa):(relabel z5v<|envOfC "next_states" (zc<|top 53) L f cdv).names=nm52:=by rfl
def cs52{f:Aa}{cdv:Ab}{A:Around}{vZ:List Env}{s:Ac}{H:Hp}{E:XK}:
  zT (cxOf CX0 P w K mg base ["code","labels","place","state","depth","guards"] "next_states" (zc<|top 53) f cdv A vZ s H E).nox N52 3 [0,2,3] z5v (cl52 s.heap.objs.size) where
 clos:=zb4 f cdv s.heap.objs.size
 nocell:=vW
 kind:=rfl
 names:=vW
 sub:=fun x c e=>e
 has:=fun x h=>by
  have e:=zbr f cdv s.heap.objs.size;have h:nm52.lookup x=some .cell\/nm52.lookup x=some .free:=by rw[<-e];exact h
  have:x="code"\/x="place"\/x="state":=by
   rcases h with h|h
   ·have hm:=vc h;simp only[nm52,kE,vi,kq,or_false] at hm;rcases hm with z|z|z|z|z|z|z|z
    all_goals first|exact .inl z.1|exact .inr (.inl z.1)|exact .inr (.inr z.1)|exact z.2.elim|cases z.2
   ·have hm:=vc h;simp only[nm52,kE,vi,kq,or_false] at hm;rcases hm with z|z|z|z|z|z|z|z
    all_goals first|exact z.2.elim|cases z.2
  rcases this with rfl|rfl|rfl
  ·exact⟨_,rfl⟩
  ·exact⟨_,rfl⟩
  ·exact⟨_,rfl⟩
 len:=rfl
 free:=fun j x e=>by
  match j,e with
 |0,e=>cases e;exact⟨0,rfl,rfl,rfl,rfl,fun c h=>h⟩
 |1,e=>cases e;exact⟨2,rfl,rfl,rfl,rfl,fun c h=>h⟩
 |2,e=>cases e;exact⟨3,rfl,rfl,rfl,rfl,fun c h=>h⟩
 |j+3,e=>exact vd e (by rw[vp<|by show 6<=3+(j+3);lia];exact nofun)
abbrev GsIn(H:Hp):List Aa->List Gd->Prop:=Paired fun a p=>H a=some (.tup [.int p.1,.int p.2])
def GsAt(K:ku)(H:Hp)(g:Aa)(gs:List Gd):Prop:=∃as,SqT K H g (as.map V.ref)/\GsIn H as gs
abbrev Sta:=Int × List Gd
def StA(K:ku)(H:Hp)(a:Aa)(s:Sta):Prop:=∃g,SqT K H a [.int s.1,.ref g]/\GsAt K H g s.2
def GsIn.same{H H':Hp}{as:List Aa}{gs:List Gd}(h:GsIn H as gs)(s:Same H H'):GsIn H' as gs:=Paired.mapP h fun _ _ e=>s _ _ e
def GsAt.same{K:ku}{H H':Hp}{g:Aa}{gs:List Gd}(h:GsAt K H g gs)(s:Same H H'):GsAt K H' g gs:=let ⟨as,h1,h2⟩:=h;⟨as,jq s h1,h2.same s⟩
def StA.same{K:ku}{H H':Hp}{a:Aa}{st:Sta}(h:StA K H a st)(s:Same H H'):StA K H' a st:=let ⟨g,h1,h2⟩:=h;⟨g,jq s h1,h2.same s⟩
def GsIn.append{H:Hp}{as bs:List Aa}{gs hs:List Gd}(h:GsIn H as gs)(k:GsIn H bs hs):GsIn H (as++bs) (gs++hs):=z2y h k
def GsIn.dropLast{H:Hp}{as:List Aa}{gs:List Gd}(h:GsIn H as gs):GsIn H as.dropLast gs.dropLast:=by
 induction h with
|nil=>exact .nil
|cons h t ih=>
  cases t with
 |nil=>exact .nil
 |cons h2 t=>exact .cons h ih
def GsIn.last{H:Hp}{as:List Aa}{gs:List Gd}(h:GsIn H as gs):(as=[]/\gs=[])\/∃bs a g,as=bs++[a]/\gs.getLast?=some g/\H a=some (.tup [.int g.1,.int g.2]):=by
 induction h with
|nil=>exact .inl ⟨rfl,rfl⟩
|@cons a g as gs h t ih=>
  rcases ih with ⟨rfl,rfl⟩|⟨bs,a',g',e1,e2,e3⟩
  ·exact .inr ⟨[],a,g,rfl,rfl,h⟩
  ·refine .inr ⟨a::bs,a',g',by rw[e1];rfl,?_,e3⟩;cases gs with
  |nil=>cases e2
  |cons x y=>rw[List.getLast?_cons_cons];exact e2
section
variable {X:Cx}
inductive z9W(K:ku)(x:V)(y:V)(H:Hp)(Q:VK):Prop
|mk (a:_) (b:_) (xs:_) (ys:_):x=.ref a->y=.ref b->SqT K H a xs->SqT K H b ys->ys≠[]->xs.length+ys.length<=sizeLine->(xs=[]->Q (.ref b) H)->(xs≠[]->∀p,H p=none->Q (.ref p) (upd H p<|.tup (xs++ys)))->z9W K x y H Q
def z8i:OpR X (binaryOp .Add) (z9W X.K):=by
 intro vY s σ H x y v u Q I rx ry h;obtain⟨a,b,xs,ys,rfl,rfl,ha,hb,hy,hz,q1,q2⟩:=h;by_cases hx:xs=[]
 ·subst hx;cases rx;cases ry;obtain⟨its,r1,ht,_⟩:=I.tuple ha;obtain⟨its2,r2,ht2,_⟩:=I.tuple hb;cases r1;obtain⟨⟨cls,dd,data,sl⟩,ho,hc,n,hd⟩:=id ht;obtain⟨⟨cls2,dd2,data2,sl2⟩,ho2,hc2,n2,hd2⟩:=id ht2;simp only at hc hd hc2 hd2;subst hc hd hc2 hd2;exact concat_meets ⟨_,ho,rfl⟩ ⟨_,ho2,rfl⟩ noFill_tuple_add seq_tuple_add PySem.F.slot_tuple_add PySem.F.entry_tuple_add (PySem.F.args_tuple_add_2 _ _)
   (tuple_addW0 a b _ _ n n2 dd dd2 sl sl2<|by simp) ⟨ho,ho2,.ref b,H,I,rfl,q1 rfl⟩
 ·exact z4y vY s σ H _ _ v u Q I rx ry ⟨a,b,xs,ys,rfl,rfl,ha,hb,hx,hz,fun z=>vd z hy,fun _=>q2 hx⟩
def z7m{A:Around}{s:Ac}{l b:Aa}{vs ws:List Ab}(hl:s.heap.IsTuple l vs.toArray)(hb:s.heap.IsTuple b ws.toArray)(hn:vs.length=ws.length)(hu:A.units < cLine)(he:∀j (h1:j < vs.length) (h2:j < ws.length),SeqAt.EqAt A.in1 s vs[j] ws[j] true):SeqAt.EqAt A s (.ref l) (.ref b) true:=by
 by_cases z:l=b
 ·subst z;exact SeqAt.EqAt.same _
 ·refine SeqAt.EqAt.of_refs z ?_;have:=SeqAt.RcAt.tuples (e:=fun _=>true) hl hb hu (fun j h1 h2=>by
   have:=he j (by simpa using h1) (by simpa using h2)
   simpa using this)
  have e:((List.range<|min vs.toArray.size ws.toArray.size).all (fun _=>true)&&vs.toArray.size == ws.toArray.size)=true:=by simp[hn]
  rw[e] at this;exact this
def z7M:∀{xs:List V}{vs ws:List Ab}{A:Around}{s:Ac},Vals xs vs->Vals xs ws->(∀x∈xs,QF x=true/\eqV x x=true)->∀j (h1:j < vs.length) (h2:j < ws.length),SeqAt.EqAt A s vs[j] ws[j] true
 :=by
 intro xs vs ws A s r;induction r generalizing ws with
|nil=>intro _ _ j h1 _;exact vd h1 (Nat.not_lt_zero _)
|@cons x v xs vs r t ih=>
  intro r2 h j h1 h2;cases r2 with
 |cons r' t'=>
   cases j with
  |zero=>
    have e:=z5j (A:=A) (s:=s) r r' (h x<|kQ ..).1 (h x<|kQ ..).1;rw[(h x<|kQ ..).2] at e;exact e
  |succ j=>exact ih t' (fun y hy=>h y<|kR _ hy) j (by simpa using h1) (by simpa using h2)
def z6H{vY:List (Aa × Obj)}{σ:L2.St}{H:Hp}{s:Ac}{A:Around}{a b:Aa}{g:Gd}(I:Inv X vY σ H s)(ha:H a=some (.tup [.int g.1,.int g.2]))(hb:H b=some (.tup [.int g.1,.int g.2]))(hu:A.units < cLine):SeqAt.EqAt A s (.ref a) (.ref b) true:=by
 obtain⟨vs,r1,t1,_⟩:=I.tuple (SqT.of ha);obtain⟨ws,r2,t2,_⟩:=I.tuple (SqT.of hb);exact z7m t1 t2 (by rw[<-r1.length,<-r2.length]) hu fun j h1 h2=>z7M r1 r2 (fun x hx=>by
  rcases kE.mp hx with rfl|hx
  ·exact⟨rfl,by show (g.1 == g.1)=true;simp⟩
  ·rw[ko.mp hx];exact⟨rfl,by show (g.2 == g.2)=true;simp⟩) j h1 h2
def z52{vY:List (Aa × Obj)}{σ:L2.St}{H:Hp}{s:Ac}{A:Around}(I:Inv X vY σ H s)(hu:A.units < cLine):∀{as bs:List Aa}{gs:List Gd}{vs ws:List Ab},GsIn H as gs->GsIn H bs gs->Vals (as.map V.ref) vs->Vals (bs.map V.ref) ws->∀j (h1:j < vs.length) (h2:j < ws.length),SeqAt.EqAt A s vs[j] ws[j] true
 :=by
 intro as bs gs vs ws h;induction h generalizing bs vs ws with
|nil=>intro _ r _ j h1 _;cases r;exact vd h1 (Nat.not_lt_zero _)
|cons h t ih=>
  intro g2 r r2 j h1 h2;cases g2 with
 |cons h' t'=>cases r with
  |cons r rr=>cases r2 with
   |cons r' rr'=>
     cases j with
    |zero=>
      cases r;cases r';exact z6H I h h' hu
    |succ j=>exact ih t' rr rr' j (by simpa using h1) (by simpa using h2)
def zbK{vY:List (Aa × Obj)}{σ:L2.St}{H:Hp}{s:Ac}{A:Around}{a b:Aa}{gs:List Gd}(I:Inv X vY σ H s)(ha:GsAt X.K H a gs)(hb:GsAt X.K H b gs)(hu:A.units+1 < cLine):SeqAt.EqAt A s (.ref a) (.ref b) true:=by
 obtain⟨as,h1,h2⟩:=ha;obtain⟨bs,h3,h4⟩:=hb;obtain⟨vs,r1,t1,_⟩:=I.tuple h1;obtain⟨ws,r2,t2,_⟩:=I.tuple h3;have e1:=Paired.length h2;have e2:=Paired.length h4;refine z7m t1 t2 ?_ (by lia) (z52 I (by show A.units+1 < cLine;exact hu) h2 h4 r1 r2);rw[<-r1.length,<-r2.length,kl,kl,e1,e2]
inductive z9S(K:ku)(x:V)(y:V)(H:Hp)(Q:VK):Prop
|mk (a:_) (b:_) (st:_):x=.ref a->y=.ref b->StA K H a st->StA K H b st->Q (.bl false) H->z9S K x y H Q
def z8d(hu:X.A.units+3 < cLine):OpR X (compareOp .NotEq) (z9S X.K):=by
 intro vY s σ H x y v u Q I rx ry h;obtain⟨a,b,st,rfl,rfl,⟨g,h1,h2⟩,⟨g',h3,h4⟩,q⟩:=h;cases rx;cases ry;obtain⟨vs,r1,t1,_⟩:=I.tuple h1;obtain⟨ws,r2,t2,_⟩:=I.tuple h3;have e:(!((List.range<|min vs.toArray.size ws.toArray.size).all (fun _=>true)&&vs.toArray.size == ws.toArray.size))=false:=by
  have z1:=r1.length;have z2:=r2.length;have z:vs.length=ws.length:=z1.symm.trans z2;simp only[kF];rw[z];simp
 refine SeqAt.RcNeAt.tuples (e:=fun _=>true) t1 t2 (by lia) (fun j j1 j2=>?_) X.prog X.w X.xe _ ⟨.bl _,H,I,rfl,by rw[e];exact q⟩;cases r1 with
|cons ra rb=>
  cases r2 with
 |cons rc rd=>
   cases rb with
  |cons re rf=>
    cases rd with
   |cons rg rh=>
     cases rf;cases rh;match j,j1,j2 with
    |0,_,_=>
      have e:=z5j (A:=X.A.in1) (s:=s) ra rc rfl rfl;rw[show eqV (V.int st.1) (V.int st.1)=true by show (st.1 == st.1)=true;simp] at e;exact e
    |1,_,_=>
      cases re;cases rg;exact zbK I h2 h4 (by show X.A.units+1+1 < cLine;lia)
    |j+2,j1,_=>exact vd j1 (by simp)
end
noncomputable def qx(r:Row)(d:Int)(gs:List Gd)(more:Int):List Gd:=if more=1 then gs++[(argM r.arg,d)] else if more= -1 then gs.dropLast else gs
section
inductive spGb(K:ku)(vs:List V)(H:Hp)(Q:VK)(E:XK):Prop
|mk (ra:_) (st:_) (r:_) (d:_) (g:_) (gs:_) (more:_):vs=[.ref ra,.ref st,.int more]->H ra=some (.tup<|tupV r)->SqT K H st [.int d,.ref g]->GsAt K H g gs->gs.length<=1000->(more=1->∃m,r.arg=.int m)->(more= -1->gs≠[])->(∀g' H',Same H H'->GsAt K H' g' (qx r d gs more)->Q (.ref g') H')->spGb K vs H Q E
def sc52:zj ["row","state","more","depth","guards"] ["row","state","more"] (zc<|top 52):=fsM
def z2W{α:Type}(xs:List V)(h:xs≠[]):cutV xs none (some (-1))=xs.dropLast/\¬(HT.sIx xs.length 0 none=0/\HT.sIx xs.length xs.length (some (-1))=xs.length):=by
 have hp:0 < xs.length:=List.length_pos_iff.mpr h;have e:HT.sIx xs.length xs.length (some (-1))=xs.length - 1:=by
  show (if (-1:Int) < 0 then ((-1:Int)+(xs.length:Int)).toNat else min (-1:Int).toNat xs.length)=_;rw[kz<|by decide];lia
 refine⟨?_,fun z=>by rw[e] at z;lia⟩;unfold cutV;rw[e];show (xs.drop 0).take (xs.length - 1 - 0)=_;rw[List.drop_zero,Nat.sub_zero,List.dropLast_eq_take]
def zbV(D:zn K mg "guards_behind" (top 52)):FN P w K mg base 1 "guards_behind" ["row","state","more"] (spGb K):=by
 refine FN.o D sc52 ?_;rintro _ _ _ _ _ H _ _ _ _ ⟨ra,st,r,d,g,gs,more,rfl,har,hst,⟨as,hga,hgs⟩,hz,h1,h2,q⟩;refine⟨_,z6 (Za (pv 1)<|Z7 rfl<|zu (zL 3 sc52.nd)<|zu (zL 4 sc52.nd) qt)
  (z6 (zV (zo qX (pv 2) zb<|zy _) (z8<|zl<|zE z8i (pv 4)<|zY<|pa1<|zY<|pa2 (zG qg (pv 0) zb)<|pv 3) zC)
  (z8<|zl<|j9 (zo qX (pv 2) (Qi jO zb)<|zy _) (z0b z9E (pv 4) z1T<|z1S<|Qi jO zb)<|pv 4)),?_⟩
 symm
 refine⟨st,_,rfl,hst,rfl,_,_,rfl,_,_,rfl,rfl,?_⟩;refine⟨rfl,_,rfl,?_⟩;have hal:as.length=gs.length:=Paired.length hgs;unfold qx at q;refine ite2 (fun c=>?_) (fun c=>?_)
 ·have e:more=1:=by have:=kD c;injection this
  obtain⟨m,em⟩:=h1 e;rw[kz e,em] at q;refine⟨ra,_,_,_,rfl,rfl,SqT.of har,zm (j:=1) rfl,vX,fun p hp=>⟨vX,fun p2 hp2=>?_⟩⟩;have s1:=ze hp (.tup [r.arg,.int d]);have s2:=ze hp2 (.tup [.ref p]);have hp':(upd (upd H p<|.tup [r.arg,.int d]) p2<|.tup [.ref p]) p=some (.tup [.int<|argM<|.int m,.int d]):=by
   rw[<-em];have:=s2 _ _ (z7 (H:=H) (a:=p) (o:=.tup [r.arg,.int d]))
   rw[this,em];rfl
  have s12:=s1.trans s2;refine⟨g,p2,as.map V.ref,[.ref p],rfl,rfl,jq s12 hga,SqT.of z7,nofun,by rw[kl];show as.length+1<=_;rw[sizeLine_eq];lia,fun z=>?_,fun z p3 hp3=>?_⟩
  ·have za:as=[]:=by simpa using z
   subst za;cases hgs;exact q p2 _ s12 ⟨[p],SqT.of z7,.cons hp' .nil⟩
  ·have s3:=ze hp3 (.tup (as.map V.ref++[.ref p]));exact q p3 _ (s12.trans s3) ⟨as++[p],SqT.of (by rw[kK];exact z7),((hgs.same s12).same s3).append<|.cons (s3 _ _ hp') .nil⟩
 ·have e:¬more=1:=fun z=>c (by rw[z];rfl)
  rw[ky e] at q;refine⟨1,rfl,rfl,_,rfl,?_⟩;refine ite2 (fun c2=>?_) (fun c2=>?_)
  ·have e2:more= -1:=by have:=kD c2;injection this
   rw[kz e2] at q;have hne:as.map V.ref≠[]:=fun z=>h2 e2 (by
    have za:as=[]:=by simpa using z
    rw[za] at hal;exact List.length_eq_zero_iff.mp hal.symm)
   obtain⟨k1,k2⟩:=z2W (α:=V) _ hne;refine⟨1,rfl,-1,rfl,g,_,rfl,hga,k2,fun p hp=>?_⟩;rw[k1];have s1:=ze hp (.tup (as.map V.ref).dropLast);refine q p _ s1 ⟨as.dropLast,SqT.of (by rw[List.map_dropLast];exact z7),(hgs.dropLast).same s1⟩
  ·have e2:¬more= -1:=fun z=>c2 (by rw[z];rfl)
   rw[ky e2] at q;exact (q g H (Same.refl _) ⟨as,hga,hgs⟩)
end
noncomputable def isT:HO->Bool
|.tup _=>true
|.frz _ _=>true
|_=>false
def jf(H H':Hp):Prop:=∀b o,H b=some o->isT o=true->H' b=some o
def jf.trans{H H1 H2:Hp}(a:jf H H1)(b:jf H1 H2):jf H H2:=fun c o h t=>b c o (a c o h t) t
def jf.of{H H':Hp}(s:Same H H'):jf H H':=fun b o h _=>s b o h
def jf.upd{H:Hp}{l:Aa}{o u:HO}(h:H l=some u)(hu:isT u=false):jf H (upd H l o):=fun b x e t=>by
 rw[zg fun z=>by rw[z,h] at e;cases e;rw[hu] at t;cases t];exact e
def z0R{K:ku}{H H':Hp}{a:Aa}{xs:List V}(s:jf H H')(h:SqT K H a xs):SqT K H' a xs:=by
 rcases h with (h|⟨o,h⟩)|h
 ·exact .inl (.inl<|s _ _ h rfl)
 ·exact .inl (.inr ⟨o,s _ _ h rfl⟩)
 ·exact .inr h
def GsIn.keep{H H':Hp}{as:List Aa}{gs:List Gd}(h:GsIn H as gs)(s:jf H H'):GsIn H' as gs:=Paired.mapP h fun _ _ e=>s _ _ e rfl
def GsAt.keep{K:ku}{H H':Hp}{g:Aa}{gs:List Gd}(h:GsAt K H g gs)(s:jf H H'):GsAt K H' g gs:=let ⟨as,h1,h2⟩:=h;⟨as,z0R s h1,h2.keep s⟩
def StA.keep{K:ku}{H H':Hp}{a:Aa}{st:Sta}(h:StA K H a st)(s:jf H H'):StA K H' a st:=let ⟨g,h1,h2⟩:=h;⟨g,z0R s h1,h2.keep s⟩
abbrev NxIn(K:ku)(H:Hp):List Aa->List (V × Sta)->Prop:=Paired fun t n=>∃a,H t=some (.tup [n.1,.ref a])/\StA K H a n.2
def NxIn.keep{K:ku}{H H':Hp}{ts:List Aa}{ns:List (V × Sta)}(h:NxIn K H ts ns)(s:jf H H'):NxIn K H' ts ns:=Paired.mapP h fun _ _ z=>z.elim fun a q=>⟨a,s _ _ q.1 rfl,q.2.keep s⟩
def NxIn.append{K:ku}{H:Hp}{as bs:List Aa}{gs hs:List (V × Sta)}(h:NxIn K H as gs)(k:NxIn K H bs hs):NxIn K H (as++bs) (gs++hs):=z2y h k
def NxIn.get{K:ku}{H:Hp}{as:List Aa}{rs:List (V × Sta)}{i:Nat}{x:V}(h:NxIn K H as rs)(e:(as.map V.ref)[i]?=some x):∃t n a,x=.ref t/\rs[i]?=some n/\H t=some (.tup [n.1,.ref a])/\StA K H a n.2:=by
 obtain⟨t,n,h1,h2,a,h3⟩:=z4j h e;exact⟨t,n,a,h1,h2,h3⟩
noncomputable def Qk(rs:List Row)(place:Nat)(r:Row)(st:Sta):List (V × Sta):=(ji rs place r st.1 st.2.getLast?).map fun m=>(m.1,(m.2.1,qx r st.1 st.2 m.2.2))
def z6I{x:Str}(h:tabI qp x=1):x="try":=by
 unfold tabI at h;cases e:qp.lookup x with
|none=>rw[e] at h;cases h
|some v=>
  have hm:=vc e;rw[e] at h;simp only[qp,kE,vi,kq,or_false] at hm;rcases hm with ⟨z,_⟩|⟨_,z⟩
  ·exact z
  ·rw[z] at h;cases h
def z6J{x:Str}(h:tabI qp x= -1):x="endtry":=by
 unfold tabI at h;cases e:qp.lookup x with
|none=>rw[e] at h;cases h
|some v=>
  have hm:=vc e;rw[e] at h;simp only[qp,kE,vi,kq,or_false] at hm;rcases hm with ⟨_,z⟩|⟨z,_⟩
  ·rw[z] at h;cases h
  ·exact z
def z3o{rs:List Row}{place:Nat}{r:Row}{d:Int}{gs:List Gd}(hok:jX r):∀m∈ji rs place r d gs.getLast?,(m.2.2=1->∃k,r.arg=.int k)/\(m.2.2= -1->gs≠[]):=by
 intro m hm;unfold ji at hm;split at hm
 ·cases hm
 ·split at hm
  ·cases hm
  ·rename_i _ hG
   rcases kS.mp hm with hm|hm
   ·rcases kS.mp hm with hm|hm
    ·unfold mv1 at hm;split at hm
     ·cases hm
     ·rw[ko.mp hm];refine⟨fun h=>?_,fun h=>?_⟩
      ·have e:=z6I h;obtain⟨s,hs,hfit,_⟩:=hok.parts;rw[e,show zx "try"=some ("mark":Str) by trivial] at hs;cases hs;obtain⟨k,hk,_⟩:=Z4 hfit;exact⟨k,hk⟩
      ·have e:=z6J h;intro z;subst z;exact hG (by unfold Jf;rw[e];decide)
    ·unfold mv2 at hm;split at hm
     ·rw[ko.mp hm];exact⟨fun h=>vd (show (0:Int)=1 from h) (by decide),fun h=>vd (show (0:Int)= -1 from h)<|by decide⟩
     ·cases hm
   ·unfold mv3 at hm;split at hm
    ·cases e:gs.getLast? with
    |none=>rw[e] at hm;cases hm
    |some g=>
      rw[e] at hm;rw[ko.mp hm];refine⟨fun h=>vd (show (-1:Int)=1 from h) (by decide),fun _ z=>?_⟩;subst z;cases e
    ·cases hm
def z0r{X:Cx}{K:ku}(hK:X.K=K):IxR X (rIxL K):=by subst hK;exact zH
def z12(rs:List Row)(place:Nat)(r:Row)(d:Int)(og:Option Gd):(ji rs place r d og).length<=3:=by
 unfold ji mv1 mv2 mv3;repeat' split
 all_goals simp
def nd52:N52.Nodup:=vW
section
def GsAt.guardV{H:Hp}{g:Aa}{gs:List Gd}(h:GsAt K H g gs):∃as:List Aa,SqT K H g (as.map V.ref)/\((as=[]/\qL H .non gs.getLast?)\/∃bs a,as=bs++[a]/\qL H (.ref a) gs.getLast?):=by
 obtain⟨as,h1,h2⟩:=h;refine⟨as,h1,?_⟩;rcases h2.last with ⟨e1,e2⟩|⟨bs,a,g',e1,e2,e3⟩
 ·exact .inl ⟨e1,by rw[e2];rfl⟩
 ·exact .inr ⟨bs,a,e1,by rw[e2];exact⟨a,rfl,e3⟩⟩
inductive z3Y(K:ku)(vs:List V)(H:Hp)(Q:VK)(E:XK):Prop
|mk (g:Aa) (gs:List Gd):vs=[.ref g]->GsAt K H g gs->(∀gv,qL H gv gs.getLast?->Q gv H)->z3Y K vs H Q E
abbrev Fd(P:Program)(w:World)(K:PySem.W.Frag)(mg:Str->Option Ab)(base:Heap):=FN P w K mg base 1 "uppermost" ["guards"] (z3Y K)
def up2(F:FN P w K mg base 1 "uppermost" ["guards"] (spUp K)):Fd P w K mg base:=F.imp fun vs H Q E ⟨g,gs,e,h,q⟩=>by
 obtain⟨as,h1,h2⟩:=h.guardV;refine⟨g,as,e,h1,?_⟩;rcases h2 with ⟨a,b⟩|⟨bs,a,e1,b⟩
 ·exact .inl ⟨a,q _ b⟩
 ·exact .inr ⟨bs,a,e1,q _ b⟩
inductive z0L(K:ku)(vs:List V)(H:Hp)(Q:VK)(E:XK):Prop
|mk (l:_) (d:_) (place:_) (sa:_) (st:_) (rs:_) (r:_):vs=[.ref l,.ref d,.int (place:Nat),.ref sa]->QA K H l d rs->rs[place]?=some r->StA K H sa st->st.2.length<=1000->(∀f ts H',Same H H'->H f=none->H' f=some (.lst<|ts.map V.ref)->NxIn K H' ts (Qk rs place r st)->Q (.ref f) H')->z0L K vs H Q E
def NxW(K:ku)(l:Aa)(place:Nat)(sa:Aa)(r:Row)(st:Sta)(ms:List Mv)(H1:Hp)(nl:Aa)(i:Nat)(ys:List V)(σ:L2.St)(H2:Hp):Prop:=(∃a b c,σ=[a,b,c,some<|.ref l,some<|.int (place:Nat),some<|.ref sa])/\∃us:List Aa,ys=us.map V.ref/\NxIn K H2 us ((ms.take i).map fun m=>(m.1,(m.2.1,qx r st.1 st.2 m.2.2)))/\Same H1 H2/\H2 nl=some (.lst ys)
def z8M(D:zn K mg "next_states" (top 53))(FU:Fd P w K mg base)(FM:FN P w K mg base 3 "moves" Vg (JW K))(FB:FN P w K mg base 1 "guards_behind" ["row","state","more"] (spGb K)):
  FN P w K mg base 4 "next_states" Vf (z0L K):=by
 refine FN.o D sc53 ?_;rintro _ _ _ _ s _ _ _ _ hr ⟨l,d,place,sa,st,rs,r,rfl,hC,hrp,⟨g,hsa,hgs⟩,hz,q⟩;have hr1:=hr.mono (vW:1<=3);refine⟨_,z6 (Za (pv 3)<|Z7 rfl<|zu (zL 4 sc53.nd)<|zu (zL 5 sc53.nd) qt)
  (z8 (zl (ql (N:=N52) (nt:=3) (ix:=[0,2,3]) (cl:=cl52 s.heap.objs.size) rfl cs52 (qy<|zk FM hr rfl<|zf (pv 0)<|zf (pv 1)<|pa3 (pv 2) (pv 4)<|zk FU hr1 rfl<|pa1<|pv 5)
   (fun _ _ _ _=>Z0 (K:=K) (n:=3) rfl rfl<|zu (zL 0 nd52)<|zu (zL 1 nd52)<|zu (zL 2 nd52) qt)
   (fun _ _ _ _=>qr)
   (fun _ _ _ _=>zY<|pa2 (pv 0)<|zY<|pa2 (pv 1)<|zk FB hr1 rfl<|pa3 (zG (z0r (K:=K) rfl) (pv 3)<|pv 4) (pv 5)<|pv 2)))),?_⟩
 symm
 refine⟨sa,_,rfl,hsa,rfl,_,_,rfl,_,_,rfl,rfl,?_⟩;refine⟨g,st.2,rfl,hgs,fun gv hgv=>?_⟩;refine⟨l,d,place,st.1,gv,_,rs,r,rfl,hC,hrp,hgv,fun ml ts H1 s1 hn1 hm1 hM1=>?_⟩;obtain⟨⟨as,hS,hR⟩,hc,_⟩:=id hC;have hro:=hc.ok r (kH hrp);have hmm:=z3o (rs:=rs) (place:=place) (d:=st.1) (gs:=st.2) hro;have hlen:=z12 rs place r st.1 st.2.getLast?;unfold Qk at q;generalize hms:ji rs place r st.1 st.2.getLast?=ms at hM1 hmm hlen q;refine⟨ml,rfl,⟨_,SqL.of hm1⟩,fun nl hnl=>Zo (K:=K) (a:=ml) (xs:=ts.map V.ref) (NxW K l place sa r st ms H1 nl)
  ⟨⟨none,none,none,rfl⟩,[],rfl,.nil,ze hnl _,z7⟩ (fun i ys σ H2 _ zz=>by obtain⟨_,_,_,_,s2,_⟩:=zz;exact s2.seq (SqL.of hm1)) ?_ ?_⟩
 ·rintro i x ys σ H2 hi ⟨⟨a,b,c,rfl⟩,us,rfl,hN,s2,hp2⟩;obtain⟨t,m,rfl,hm,ht⟩:=(hM1.same fun a xs e=>s2 _ _ e).get hi;have hil:i < ts.length:=by have:=(kh.mp hi).1;simpa using this
  have hml:ts.length=ms.length:=Paired.length hM1;have hul:us.length=(ms.take i).length:=by have:=Paired.length hN;simpa using this
  have sH:=s1.trans s2;obtain⟨ra,hra,har⟩:=hR.get' hrp;obtain⟨mm1,mm2⟩:=hmm m (kH hm);refine⟨t,_,rfl,SqT.of ht,rfl,_,_,rfl,_,_,rfl,_,_,rfl,rfl,?_⟩;refine JM ⟨l,_,_,_,rfl,rfl,sH.seq hS,zm hra,ra,sa,r,st.1,g,st.2,m.2.2,rfl,sH _ _ har,jq sH hsa,hgs.same sH,hz,mm1,mm2,fun g' H3 s3 hg'=>?_⟩;refine⟨vX,fun p1 hp1=>⟨vX,fun p2 hp2'=>?_⟩⟩;have t1:=ze hp1 (.tup [.int m.2.1,.ref g']);have t2:=ze hp2' (.tup [m.1,.ref p1]);have t12:=t1.trans t2;have sE:=s3.trans t12;have hnl5:=sE _ _ hp2;refine⟨hnl5,?_,_,by rw[kl];lia,rfl,by rw[kl];lia,⟨_,_,_,rfl⟩,us++[p2],by rw[kK];rfl,?_,?_,z7⟩
  ·rw[kl,hul,vq];exact zF (by lia)
  ·rw[ZJ hm,kK];have kT:=jf.upd (o:=.lst (us.map V.ref++[.ref p2])) hnl5 rfl;refine NxIn.append ((hN.keep<|jf.of sE).keep kT) (.cons ⟨p1,kT _ _ z7 rfl,StA.keep ⟨g',SqT.of<|t2 _ _ z7,hg'.same t12⟩ kT⟩ .nil)
  ·exact fun b o e=>by rw[zg<|zd e hnl];exact sE _ _ (s2 _ _ e)
 ·rintro ys σ H2 ⟨_,us,rfl,hN,s2,hp2⟩;have hml:ts.length=ms.length:=Paired.length hM1;rw[kl,hml,vC] at hN;exact q nl us H2 (s1.trans s2) (s1.free hnl) hp2 hN
inductive spSw(K:ku)(vs:List V)(H:Hp)(Q:VK)(E:XK):Prop
|mk (l:_) (d:_) (place:_) (sa:_) (st:_) (rs:_) (r:_):vs=[.ref l,.ref d,.int (place:Nat),.ref sa]->QA K H l d rs->rs[place]?=some r->StA K H sa st->(∀f H',Same H H'->H f=none->H' f=some (.lst<|(QR rs place r st.1 st.2.getLast?).map V.str)->Q (.ref f) H')->spSw K vs H Q E
def sc54:zj ["code","labels","place","state"] ["code","labels","place","state"] (zc<|top 54):=fsM
def zbO(D:zn K mg "state_words" (top 54))(FU:Fd P w K mg base)(FW:FN P w K mg base 4 "words_lacking" Vg (z1D K)):FN P w K mg base 5 "state_words" Vf (spSw K):=by
 refine FN.o D sc54 ?_;rintro _ _ _ _ _ _ _ _ _ hr ⟨l,d,place,sa,st,rs,r,rfl,hC,hrp,⟨g,hsa,hgs⟩,q⟩;refine⟨_,z8<|zl<|zk FW hr rfl<|zf (pv 0)<|zf (pv 1)<|pa3 (pv 2) (zG qg (pv 3) zb)<|zk FU (hr.mono<|by decide) rfl<|pa1<|zG qg (pv 3) zb,?_⟩
 symm
 refine⟨sa,_,_,_,rfl,rfl,hsa,zm (j:=0) rfl,sa,_,_,_,rfl,rfl,hsa,zm (j:=1) rfl,g,st.2,rfl,hgs,fun gv hgv=>?_⟩;exact⟨l,d,place,st.1,gv,_,rs,r,rfl,hC,hrp,hgv,q⟩
end
abbrev Fnd:=List (Option Sta)
noncomputable def QD:List (V × Sta)->Fnd->List Nat->Option (Fnd × List Nat)
|[],f,w=>some (f,w)
|(x,s)::r,f,w=>match x with
 |.int j=>if 0<=j then (match f[j.toNat]? with
  |some none=>QD r (f.set j.toNat<|some s) (w++[j.toNat])
  |some (some s')=>if s'=s then QD r f w else none
  |none=>none) else none
 |_=>none
noncomputable def bfs(rs:List Row):Nat->Fnd->List Nat->Option Fnd
|_,f,[]=>some f
|0,_,_::_=>none
|n+1,f,p::w=>match rs[p]?,f[p]? with
 |some r,some (some s)=>if (QR rs p r s.1 s.2.getLast?).isEmpty=true/\s.2.length<=1000 then (match QD (Qk rs p r s) f w with
  |some (f',w')=>bfs rs n f' w'
  |none=>none) else none
 |_,_=>none
noncomputable def Zz(rs:List Row):Option Fnd:=bfs rs 300 ((List.replicate rs.length none).set 0<|some (0,[])) [0]
abbrev qP(K:ku)(H:Hp):List V->Fnd->Prop:=Paired fun x o=>match o with
|none=>x=.non
|some st=>∃a,x=.ref a/\StA K H a st
def qP.keep{K:ku}{H H':Hp}{xs:List V}{os:Fnd}(h:qP K H xs os)(s:jf H H'):qP K H' xs os:=Paired.mapP h fun _ o z=>by
 cases o with
|none=>exact z
|some st=>
  obtain⟨a,h1,h2⟩:=z;exact⟨a,h1,h2.keep s⟩
def qP.get{K:ku}{H:Hp}{xs:List V}{os:Fnd}{j:Nat}{o:Option Sta}(h:qP K H xs os):os[j]?=some o->∃x,xs[j]?=some x/\(match o with|none=>x=.non|some st=>∃a,x=.ref a/\StA K H a st):=z9Y h
def qP.set{K:ku}{H:Hp}{a:Aa}{st:Sta}(hs:StA K H a st):∀{xs:List V}{os:Fnd}(j:Nat),qP K H xs os->qP K H (xs.set j<|.ref a) (os.set j<|some st)
|_,_,_,.nil=>.nil
|_,_,0,.cons _ t=>.cons ⟨a,rfl,hs⟩ t
|_,_,j+1,.cons h t=>.cons h (qP.set hs j t)
def JC(K:ku)(H:Hp):∀n:Nat,qP K H (List.replicate n V.non) (List.replicate n none)
|0=>.nil
|n+1=>.cons rfl (JC K H n)
def z2f(H:Hp)(kvs:List (Key × V))(f:Fnd)(B:Nat):Prop:=∀(p:Nat) st,f[p]?=some (some st)->∃t ns,valV kvs (Sum.inl (p:Int):Key)=some (.ref t)/\H t=some (.tup ns)/\ns≠[]/\ns.length<=B
def z2f.keep{H H':Hp}{kvs:List (Key × V)}{f:Fnd}{B:Nat}(h:z2f H kvs f B)(s:jf H H'):z2f H' kvs f B:=fun p st e=>let ⟨t,ns,h1,h2,h3⟩:=h p st e;⟨t,ns,h1,s _ _ h2 rfl,h3⟩
def z2f.mono{H:Hp}{kvs:List (Key × V)}{f:Fnd}{B B':Nat}(h:z2f H kvs f B)(hb:B<=B'):z2f H kvs f B':=fun p st e=>let ⟨t,ns,h1,h2,h3,h4⟩:=h p st e;⟨t,ns,h1,h2,h3,kr h4 hb⟩
structure Srch(K:ku)(H0 H:Hp)(d fl wd wl:Aa)(rs:List Row)(f:Fnd)(w:List Nat)(B C:Nat):Prop where
 same:Same H0 H
 labs:∃kvs,H d=some (.dK kvs)/\jN kvs rs
 nf:H0 fl=none
 nw:H0 wd=none
 nl:H0 wl=none
 fnd:∃fvs,H fl=some (.lst fvs)/\qP K H fvs f
 wks:∃kvs,H wd=some (.dK kvs)/\z2f H kvs f B/\kvs.length<=C
 wts:H wl=some (.lst (w.map fun p=>V.int (p:Nat)))
 wlen:w.length<=C
 flen:f.length=rs.length
 nd:d≠wd
 nfw:fl≠wl
def Srch.same'{K:ku}{H0 H H':Hp}{d fl wd wl:Aa}{rs:List Row}{f:Fnd}{w:List Nat}{B C:Nat}(h:Srch K H0 H d fl wd wl rs f w B C)(s:Same H H'):Srch K H0 H' d fl wd wl rs f w B C:=by
 obtain⟨a1,⟨kv,b1,b2⟩,a3,a4,a5,⟨fvs,a6,a7⟩,⟨kvs,a8,a9,a10⟩,a11,a12,a13,a14,a15⟩:=h;have kt:=jf.of s;exact⟨a1.trans s,⟨kv,s _ _ b1,b2⟩,a3,a4,a5,⟨fvs,s _ _ a6,a7.keep kt⟩,⟨kvs,s _ _ a8,a9.keep kt,a10⟩,s _ _ a11,a12,a13,a14,a15⟩
def Srch.more{K:ku}{H0 H:Hp}{d fl wd wl:Aa}{rs:List Row}{f:Fnd}{w:List Nat}{B B' C C':Nat}(h:Srch K H0 H d fl wd wl rs f w B C)(hb:B<=B')(hc:C<=C'):Srch K H0 H d fl wd wl rs f w B' C':=by
 obtain⟨a1,a2,a3,a4,a5,a6,⟨kvs,a8,a9,a10⟩,a11,a12,a13,a14,a15⟩:=h;exact⟨a1,a2,a3,a4,a5,a6,⟨kvs,a8,a9.mono hb,by lia⟩,a11,by lia,a13,a14,a15⟩
def Srch.code{K:ku}{H0 H:Hp}{l d fl wd wl:Aa}{as:List Aa}{rs:List Row}{f:Fnd}{w:List Nat}{B C:Nat}(h:Srch K H0 H d fl wd wl rs f w B C)(hS:SqL K H0 l (as.map V.ref))(hR:zI H0 as rs)(hc:Code rs):QA K H l d rs:=
 ⟨⟨as,h.same.seq hS,hR.same h.same⟩,hc,h.labs⟩
def Srch.pop{K:ku}{H0 H:Hp}{d fl wd wl:Aa}{rs:List Row}{f:Fnd}{p:Nat}{w:List Nat}{B C:Nat}(h:Srch K H0 H d fl wd wl rs f (p::w) B C):Srch K H0 (upd H wl<|.lst (w.map fun p=>V.int (p:Nat))) d fl wd wl rs f w B C:=by
 obtain⟨a1,⟨kv,b1,b2⟩,a3,a4,a5,⟨fvs,a6,a7⟩,⟨kvs,a8,a9,a10⟩,a11,a12,a13,a14,a15⟩:=h;have kt:=jf.upd (o:=.lst (w.map fun p=>V.int (p:Nat))) a11 rfl;exact⟨fun b o e=>by rw[zg<|zd e a5];exact a1 _ _ e,⟨kv,by rw[zg<|jI b1 a11 nofun];exact b1,b2⟩,a3,a4,a5,⟨fvs,by rw[zg a15];exact a6,a7.keep kt⟩,
  ⟨kvs,by rw[zg<|jI a8 a11 nofun];exact a8,a9.keep kt,a10⟩,z7,by simp at a12;lia,a13,a14,a15⟩
def Srch.put{K:ku}{H0 H:Hp}{d fl wd wl:Aa}{rs:List Row}{f:Fnd}{w:List Nat}{B C:Nat}(h:Srch K H0 H d fl wd wl rs f w B C){j:Nat}{a t:Aa}{st:Sta}{ns fvs:List V}{kvs:List (Key × V)}(hf:H fl=some (.lst fvs))(hw:H wd=some (.dK kvs))(hs:StA K H a st)(ht:H t=some (.tup ns))(hn:ns≠[])(hl:ns.length<=B)(hj:f[j]?=some none):
  Srch K H0 (upd (upd (upd H fl<|.lst<|fvs.set j<|.ref a) wd<|.dK<|putK kvs (Sum.inl (j:Int))<|.ref t) wl<|.lst ((w.map fun p=>V.int (p:Nat))++[V.int (j:Nat)])) d fl wd wl rs (f.set j<|some st) (w++[j]) B (C+1):=by
 obtain⟨a1,⟨kv,b1,b2⟩,a3,a4,a5,⟨fvs',a6,a7⟩,⟨kvs',a8,a9,a10⟩,a11,a12,a13,a14,a15⟩:=h;rw[hf] at a6;cases a6;rw[hw] at a8;cases a8;have nwf:wd≠fl:=jI hw hf nofun;have nwl:wd≠wl:=jI hw a11 nofun;have k1:=jf.upd (o:=.lst (fvs.set j<|.ref a)) hf rfl;have e2:(upd H fl<|.lst<|fvs.set j<|.ref a) wd=some (.dK kvs):=by rw[zg nwf];exact hw
 have k2:=k1.trans (jf.upd (o:=.dK (putK kvs (Sum.inl (j:Int))<|.ref t)) e2 rfl);have e3:(upd (upd H fl<|.lst<|fvs.set j<|.ref a) wd<|.dK<|putK kvs (Sum.inl (j:Int))<|.ref t) wl=some (.lst (w.map fun p=>V.int (p:Nat))):=by rw[zg nwl.symm,zg a15.symm];exact a11
 have k3:=k2.trans (jf.upd (o:=.lst ((w.map fun p=>V.int (p:Nat))++[V.int (j:Nat)])) e3 rfl);refine⟨fun b o e=>by rw[zg<|zd e a5,zg<|zd e a4,zg<|zd e a3];exact a1 _ _ e,⟨kv,by rw[zg<|jI b1 a11 nofun,zg a14,zg<|jI b1 hf nofun];exact b1,b2⟩,a3,a4,a5,
  ⟨_,by rw[zg a15,zg nwf.symm];exact z7,(a7.set hs j).keep k3⟩,⟨_,by rw[zg nwl];exact z7,fun p st' e=>?_,?_⟩,?_,by simp;lia,by simp[a13],a14,a15⟩
 ·rw[Zl];by_cases z:p=j
  ·subst z;rw[kz rfl];exact⟨t,ns,rfl,k3 _ _ ht rfl,hn,hl⟩
  ·rw[ky fun y=>z<|by injection y with y;lia];rw[vA,ky fun y=>z y.symm] at e;obtain⟨t',ns',h1,h2,h3⟩:=a9 p st' e;exact⟨t',ns',h1,k3 _ _ h2 rfl,h3⟩
 ·have:=qm kvs (Sum.inl (j:Int):Key) (V.ref t)
  lia
 ·rw[z7,kK];rfl
section
inductive Qf(K:ku)(vs:List V)(H:Hp)(Q:VK)(E:XK):Prop
|mk (l:_) (as:_) (rs:_) (fin:_):vs=[.ref l]->SqL K H l (as.map V.ref)->zI H as rs->Code rs->Zz rs=some fin->(∀t fl fvs H',Same H H'->H t=none->H fl=none->H' t=some (.tup [.ref fl,.non])->H' fl=some (.lst fvs)->qP K H' fvs fin->Q (.ref t) H')->Qf K vs H Q E
def sc55:zj ["code","labels","found","walks","waiting","place","words","goal","state","walk"] ["code"] (zc<|top 55):=fsM
def pop0{xs:List V}{y:V}{ys:List V}(h:xs=y::ys):seqIndex? 0 xs.length=some 0/\xs[0]?=some y/\xs.eraseIdx 0=ys:=by
 subst h;refine⟨?_,rfl,rfl⟩;unfold seqIndex?;simp
noncomputable def st54:Stmt:=match (zR<|top 55).getD 5 (.Pass ⟨0,0,0,0⟩) with
|.While _ b _ _=>b.getD 3 (.Pass ⟨0,0,0,0⟩)
|s=>s
noncomputable abbrev N54:List Str:=["code","labels","found","walks","waiting","place","words","goal","state","walk"]
def z9N(K:ku)(H:Hp)(l:Aa)(rs:List Row):TS:=fun D σ H3=>∃(d fl wd wl:Aa)(p:Nat)(r:Row)(st:Sta)(n:Nat)(v6 v7 v8 v9:Option V)(fo:Fnd)(wa:List Nat)(foE:Fnd)(waE:List Nat),
 σ=[some<|.ref l,some<|.ref d,some<|.ref fl,some<|.ref wd,some<|.ref wl,some<|.int (p:Nat),v6,v7,v8,v9]/\n<=299/\rs[p]?=some r/\fo[p]?=some (some st)/\st.2.length<=1000/\QD (Qk rs p r st) fo wa=some (foE,waE)/\
 Srch K H H3 d fl wd wl rs fo wa (300 - n) (3 * (300 - n))/\∀σ' H',(∃v5 v6 v7 v8 v9,σ'=[some<|.ref l,some<|.ref d,some<|.ref fl,some<|.ref wd,some<|.ref wl,v5,v6,v7,v8,v9])->Srch K H H' d fl wd wl rs foE waE (301 - n) (3 * (301 - n))->D.nx σ' H'
def z5l{α:Type}{l:List α}{i:Nat}{x:α}(h:l[i]?=some x):l.drop i=x::l.drop (i+1):=by
 obtain⟨hi,e⟩:=kh.mp h;rw[<-e];exact List.drop_eq_getElem_cons hi
def F54(K:ku)(H:Hp)(l d fl wd wl:Aa)(p:Nat)(v6:Option V)(rs:List Row)(ns:List (V × Sta))(foE:Fnd)(waE:List Nat)(st:Sta)(n:Nat)(tp:Aa)(np:List V)(nl:Aa)(ts:List Aa)(i:Nat)(σ:L2.St)(H':Hp):Prop:=∃v7 v8 v9 fo' wa',σ=[some<|.ref l,some<|.ref d,some<|.ref fl,some<|.ref wd,some<|.ref wl,some<|.int (p:Nat),v6,v7,v8,v9]/\i<=3/\QD (ns.drop i) fo' wa'=some (foE,waE)/\fo'[p]?=some (some st)/\Srch K H H' d fl wd wl rs fo' wa' (301 - n) (3 * (300 - n)+i)/\(∃kvs,H' wd=some (.dK kvs)/\valV kvs (Sum.inl (p:Int):Key)=some (.ref tp))/\H' tp=some (.tup np)/\H' nl=some (.lst<|ts.map V.ref)/\NxIn K H' ts ns
def zbL{f:Aa}{cdv:Ab}{A:Around}{vZ:List Env}{s:Ac}{H:Hp}{E:XK}{l:Aa}{as:List Aa}{rs:List Row}(hr:Room 7 (A.deeper<|envOfC "searched" (zc<|top 55) s.heap.objs.size f cdv))(hS:SqL K H l (as.map V.ref))(hR:zI H as rs)(hc:Code rs)(FN':FN P w K mg base 4 "next_states" Vf (z0L K)):
  PS (cxOf CX0 P w K mg base N54 "searched" (zc<|top 55) f cdv A vZ s H E).nox st54 (z9N K H l rs):=by
 have hu:=z0u hr;have hu3:(A.deeper<|envOfC "searched" (zc<|top 55) s.heap.objs.size f cdv).units+3 < cLine:=by have:=hr.un;lia
 have hr4:=hr.mono (vW:4<=7);refine PS.imp (qQ vo rfl (qy<|zk FN' hr4 rfl<|zf (pv 0)<|pa3 (pv 1) (pv 5)<|zG zH (pv 2)<|pv 5)
    (Z7 rfl<|zu (zL 7 sc55.nd)<|zu (zL 8 sc55.nd) qt)
    (z6 (zM 9 sc55.nd<|zE z4y (ZC hu (pv 3) (pv 5) fun _ _=>rfl)<|zY<|pa1<|pv 7)
    (z8 (zV (zo J5 (zG zH (pv 2)<|pv 7) qR<|zy _)
     (z6 (Za (pv 8)<|z0W (pv 2) (pv 7) ZO)<|z6 (z4i hu (pv 3) (pv 7) (pv 9) rfl)<|z8<|zi<|jS (pv 4)<|pa1<|pv 7)
     (z8<|zV (zo (z8d hu3) (zG zH (pv 2)<|pv 7) (pv 8)<|zy _) jQ zC))))) ?_
 rintro D σ H3 ⟨d,fl,wd,wl,p,r,st,n,v6,v7,v8,v9,fo,wa,foE,waE,rfl,hn,hrp,hfp,hz,hrel,S,k⟩;obtain⟨fvs,hfl2,hF⟩:=S.fnd;obtain⟨x,hx,hx2⟩:=hF.get hfp;obtain⟨sa,rfl,hsa⟩:=hx2;refine⟨fl,_,_,_,rfl,rfl,SqL.of hfl2,zm hx,l,d,p,sa,st,rs,r,rfl,S.code hS hR hc,hrp,hsa,hz,fun nl ts H4 s4 hn4 hnl4 hN4=>?_⟩;have hnlen:(Qk rs p r st).length<=3:=by unfold Qk;rw[kl];exact z12 ..
 generalize Qk rs p r st=ns at hrel hN4 hnlen;have hts:ts.length=ns.length:=Paired.length hN4;have S4:=S.same' s4;obtain⟨kvs,hwd,hW,hkl⟩:=S4.wks;obtain⟨tp,np,ht1,ht2,ht3,ht4⟩:=hW p st hfp;refine⟨nl,rfl,⟨_,SqL.of hnl4⟩,ZZ (K:=K) (a:=nl) (xs:=ts.map V.ref) (F54 K H l d fl wd wl p v6 rs ns foE waE st n tp np nl ts)
  ⟨v7,v8,v9,fo,wa,rfl,by decide,hrel,hfp,S4.more (by lia) (by lia),⟨kvs,hwd,ht1⟩,ht2,hnl4,hN4⟩ (fun i σ H' _ zz=>by obtain⟨_,_,_,_,_,_,_,_,_,_,_,_,h,_⟩:=zz;exact SqL.of h) ?_ ?_⟩
 ·rintro i x σ H' hi ⟨v7,v8,v9,fo',wa',rfl,hi3,hrel',hfp',S',⟨kvs',hwd',hv'⟩,htp',hnl',hN'⟩;obtain⟨t,nx,a,rfl,hnx,ht,hst⟩:=hN'.get hi;have hil:i < ts.length:=by have:=(kh.mp hi).1;simpa using this
  rw[z5l hnx] at hrel';obtain⟨goal,st'⟩:=nx;refine⟨t,_,rfl,SqT.of ht,rfl,_,_,rfl,_,_,rfl,rfl,?_⟩;have hgd:DGet H' wd (.int (p:Nat)) (some<|.ref tp):=by rw[<-hv'];exact DGet.k (k:=Sum.inl (p:Int)) hwd'
  refine⟨wd,_,rfl,hgd,vX,fun p2 hp2=>?_⟩;have t2:=ze hp2 (.tup [goal]);refine⟨tp,p2,np,[goal],rfl,rfl,SqT.of<|t2 _ _ htp',SqT.of z7,ht3,by rw[sizeLine_eq];show np.length+1<=_;lia,nofun,fun _ p3 hp3=>?_⟩;have t3:=ze hp3 (.tup (np++[goal]));have t23:=t2.trans t3;have S2:=S'.same' t23;have hwd2:=t23 _ _ hwd';have hnl2:=t23 _ _ hnl';have hN2:=hN'.keep (jf.of t23);have hst2:=hst.same t23;have htp2:=t23 _ _ htp';have hp33:(upd (upd H' p2<|.tup [goal]) p3<|.tup (np++[goal])) p3=some (.tup (np++[goal])):=z7;generalize upd (upd H' p2<|.tup [goal]) p3 (.tup (np++[goal]))=H5 at *;obtain⟨fv,hfl5,hF5⟩:=S2.fnd;unfold QD at hrel';cases goal with
 |int j=>
   dsimp only at hrel';by_cases hj0:0<=j
   case neg=>rw[ky hj0] at hrel';cases hrel'
   rw[kz hj0] at hrel';obtain⟨jn,rfl⟩:=kZ hj0;rw[ya] at hrel';cases hfj:fo'[jn]? with
  |none=>rw[hfj] at hrel';cases hrel'
  |some o=>
    obtain⟨y,hy,hy2⟩:=hF5.get hfj;rw[hfj] at hrel';refine⟨fl,_,_,_,rfl,rfl,SqL.of hfl5,zm hy,rfl,_,rfl,?_⟩;cases o with
   |none=>
     dsimp only at hrel' hy2;subst hy2;have npj:p≠jn:=fun z=>by rw[z,hfj] at hfp';cases hfp'
     have jlt:jn < fv.length:=(kh.mp hy).1;have Sp:=S2.put (t:=p3) hfl5 hwd2 hst2 hp33 (by simp) (by rw[km];show np.length+1<=_;lia) hfj;have nwf:wd≠fl:=jI hwd2 hfl5 nofun;have nlf:nl≠fl:=fun z=>by rw[z] at hn4;rw[S.fnd.choose_spec.1] at hn4;cases hn4
     have nlw:nl≠wl:=fun z=>by rw[z] at hn4;rw[S.wts] at hn4;cases hn4
     refine iteT ⟨fl,fv,_,jn,rfl,rfl,hfl5,?_,?_⟩
     ·unfold ixN;rw[kz hj0,kz (by lia),ya]
     refine⟨wd,_,rfl,DPut.k (k:=Sum.inl (jn:Int)) (by rw[zg nwf];exact hwd2) ?_,?_⟩
     ·obtain⟨kk,e1,_,e3⟩:=S2.wks;rw[hwd2] at e1;cases e1;rw[sizeLine_eq];lia
     have hwl5:(upd (upd H5 fl<|.lst<|fv.set jn<|.ref a) wd<|.dK<|putK kvs' (Sum.inl (jn:Int))<|.ref p3) wl=some (.lst (wa'.map fun p=>V.int (p:Nat))):=by
      rw[zg<|jI S2.wts hwd2 nofun,zg S2.nfw.symm];exact S2.wts
     refine⟨.inl ⟨rfl,_,SqL.of hwl5⟩,wl,_,_,rfl,rfl,hwl5,?_,?_⟩
     ·rw[kl];have:=S2.wlen
      rw[sizeLine_eq];lia
     have kt:jf H5 (upd (upd (upd H5 fl<|.lst<|fv.set jn<|.ref a) wd<|.dK<|putK kvs' (Sum.inl (jn:Int))<|.ref p3) wl<|.lst ((wa'.map fun p=>V.int (p:Nat))++[V.int (jn:Nat)])):=
      ((jf.upd hfl5 rfl).trans<|jf.upd (u:=.dK kvs') (by rw[zg nwf];exact hwd2) rfl).trans (jf.upd hwl5 rfl)
     refine⟨_,_,_,_,_,rfl,by lia,hrel',by rw[vA,ky npj.symm];exact hfp',Sp.more (kg _) (by lia),⟨_,by rw[zg<|jI hwd2 S2.wts nofun];exact z7,?_⟩,kt _ _ htp2 rfl,?_,hN2.keep kt⟩
     ·rw[Zl,ky fun z=>npj<|by injection z with z;lia];exact hv'
     ·rw[zg nlw,zg<|jI hnl2 hwd2 nofun,zg nlf];exact hnl2
   |some s'=>
     dsimp only at hrel' hy2;obtain⟨a',rfl,hst'⟩:=hy2;by_cases hs:s'=st'
     case neg=>rw[ky hs] at hrel';cases hrel'
     rw[kz hs] at hrel';subst hs;refine iteF ⟨fl,_,_,_,rfl,rfl,SqL.of hfl5,zm hy,a',a,s',rfl,rfl,hst',hst2,false,rfl,iteF ?_⟩;exact⟨_,_,_,_,_,rfl,by lia,hrel',hfp',S2.more (kg _) (by lia),⟨kvs',hwd2,hv'⟩,htp2,hnl2,hN2⟩
 |_=>cases hrel'
 ·rintro σ H' ⟨v7,v8,v9,fo',wa',rfl,hi3,hrel',hfp',S',_⟩;have hdr:ns.drop (ts.map V.ref).length=[]:=by rw[kl,hts];simp
  rw[hdr] at hrel';unfold QD at hrel';cases hrel';exact k _ H' ⟨_,_,_,_,_,rfl⟩ (S'.more (kg _)<|by rw[kl] at *;lia)
end
structure z5J(rs:List Row)(S:Fnd):Prop where
 len:S.length=rs.length
 zero:S[0]?=some (some (0,[]))
 here:∀(p:Nat) r s,rs[p]?=some r->S[p]?=some (some s)->QR rs p r s.1 s.2.getLast?=[]/\s.2.length<=1000
 next:∀(p:Nat) r s,rs[p]?=some r->S[p]?=some (some s)->∀x s',(x,s')∈Qk rs p r s->∃j:Nat,x=.int (j:Int)/\S[j]?=some (some s')
def Sub(f S:Fnd):Prop:=∀(p:Nat) s,f[p]?=some (some s)->S[p]?=some (some s)
noncomputable def z0i(f:Fnd):Nat:=(f.filter Option.isNone).length
def J7:∀{f:Fnd}{j:Nat}{s:Sta},f[j]?=some none->z0i (f.set j<|some s)+1=z0i f
|[],_,_,h=>by cases h
|o::f,0,s,h=>by
  cases h;rfl
|o::f,j+1,s,h=>by
  have ih:=J7 (f:=f) (j:=j) (s:=s) h;unfold z0i at ih ⊢
  rw[List.set_cons_succ,List.filter_cons,List.filter_cons];cases o with
 |none=>simp only[Option.isNone_none,if_true,kP];lia
 |some x=>simp only[Option.isNone_some,Bool.false_eq_true,if_false];exact ih
def z63{S:Fnd}:∀(ns:List (V × Sta))(f:Fnd)(w:List Nat),(∀x s',(x,s')∈ns->∃j:Nat,x=.int (j:Int)/\S[j]?=some (some s'))->f.length=S.length->Sub f S->(∀p∈w,∃s,f[p]?=some (some s))->
  ∃f' w',QD ns f w=some (f',w')/\f'.length=S.length/\Sub f' S/\(∀p∈w',∃s,f'[p]?=some (some s))/\z0i f'+w'.length=z0i f+w.length/\(∀(p:Nat) s,f[p]?=some (some s)->f'[p]?=some (some s))
 :=by
 intro ns;induction ns with
|nil=>intro f w _ hl hs hw;exact⟨f,w,rfl,hl,hs,hw,rfl,fun _ _ e=>e⟩
|cons hd ns ih=>
  obtain⟨x,s⟩:=hd;intro f w hn hl hs hw;obtain⟨j,rfl,hj⟩:=hn x s (kQ ..);have hjl:j < f.length:=by rw[hl];exact (kh.mp hj).1
  have hn':=fun x s' h=>hn x s' (kR _ h)
  unfold QD;dsimp only;rw[kz (by lia),ya];cases e:f[j]? with
 |none=>rw[kL hjl] at e;cases e
 |some o=>
   cases o with
  |none=>
    dsimp only;have keep:∀(p:Nat) s0,f[p]?=some (some s0)->(f.set j<|some s)[p]?=some (some s0):=fun p s0 h=>by
     by_cases hp:p=j
     ·subst hp;rw[e] at h;cases h
     ·rw[vw<|Ne.symm hp];exact h
    obtain⟨f',w',h1,h2,h3,h4,h5,h6⟩:=ih (f.set j<|some s) (w++[j]) hn' (by rw[vH];exact hl)
     (fun p s0 h=>by
      by_cases hp:p=j
      ·subst hp;rw[vz hjl] at h;cases h;exact hj
      ·rw[vw<|Ne.symm hp] at h;exact hs p s0 h)
     (fun p hp=>by
      rcases kS.mp hp with h|h
      ·obtain⟨s0,h⟩:=hw p h;exact⟨s0,keep p s0 h⟩
      ·rw[ko.mp h];exact⟨s,vz hjl⟩)
    refine⟨f',w',h1,h2,h3,h4,?_,fun p s0 h=>h6 p s0<|keep p s0 h⟩;have:=J7 (s:=s) e
    rw[km,kG] at h5;lia
  |some s'=>
    have e2:s'=s:=by
     have:=hs j s' e
     rw[hj] at this;cases this;rfl
    dsimp only;rw[kz e2];exact ih f w hn' hl hs hw
def zb6{rs:List Row}{S:Fnd}(T:z5J rs S):∀(n:Nat)(f:Fnd)(w:List Nat),f.length=S.length->Sub f S->(∀p∈w,∃s,f[p]?=some (some s))->z0i f+w.length<=n->
  ∃fin,bfs rs n f w=some fin/\fin.length=S.length/\Sub fin S
 :=by
 have nil:∀(n:Nat)(f:Fnd),f.length=S.length->Sub f S->∃fin,bfs rs n f []=some fin/\fin.length=S.length/\Sub fin S:=fun n f hl hs=>⟨f,by cases n <;> rfl,hl,hs⟩
 intro n;induction n with
|zero=>
  intro f w hl hs hw hn;cases w with
 |nil=>exact nil _ f hl hs
 |cons p w=>simp at hn
|succ n ih=>
  intro f w hl hs hw hn;cases w with
 |nil=>exact nil _ f hl hs
 |cons p w=>
   obtain⟨s,hp⟩:=hw p (kQ ..);have hS:=hs p s hp;have hpl:p < rs.length:=by rw[<-T.len];exact (kh.mp hS).1
   have er:rs[p]?=some rs[p]:=kL hpl;obtain⟨h1,h2⟩:=T.here p rs[p] s er hS;unfold bfs;rw[er,hp];dsimp only;rw[kz ⟨by rw[h1];rfl,h2⟩];obtain⟨f',w',e1,e2,e3,e4,e5,_⟩:=z63 (Qk rs p rs[p] s) f w (T.next p rs[p] s er hS) hl hs fun q hq=>hw q (kR _ hq)
   rw[e1];dsimp only;rw[kP] at hn;exact ih f' w' e2 e3 e4 (by lia)
def z0Y:∀n:Nat,z0i (List.replicate n none)=n
|0=>rfl
|n+1=>by
  have ih:=z0Y n;unfold z0i at ih ⊢
  rw[vG,List.filter_cons];simp only[Option.isNone_none,if_true,kP];lia
def z0J{rs:List Row}{S:Fnd}(T:z5J rs S)(hn:rs.length<=299):∃fin,Zz rs=some fin/\fin.length=rs.length/\Sub fin S:=by
 have h0:0 < rs.length:=by rw[<-T.len];exact (kh.mp T.zero).1
 have e0:(List.replicate rs.length (none:Option Sta))[0]?=some none:=by rw[vt,kz h0]
 have hset:=J7 (s:=((0,[]):Sta)) e0;rw[z0Y] at hset;obtain⟨fin,h1,h2,h3⟩:=zb6 T 300 ((List.replicate rs.length none).set 0<|some (0,[])) [0] (by rw[vH,vk,T.len])
  (fun p s h=>by
   by_cases hp:p=0
   ·subst hp;rw[vz<|by rw[vk];exact h0] at h;cases h;exact T.zero
   ·rw[vw<|Ne.symm hp,vt] at h;split at h
    ·cases h
    ·cases h)
  (fun p hp=>by
   rw[ko.mp hp];exact⟨_,vz<|by rw[vk];exact h0⟩)
  (by show z0i _+1<=300;lia)
 exact⟨fin,h1,by rw[h2,T.len],h3⟩
noncomputable def dg(n:Nat):List Nat:=if n < 16 then [n] else if n < 256 then [n / 16,n % 16] else [n / 256,n / 16 % 16,n % 16]
def z27{n:Nat}(h:16<=n)(h2:n < 4096):dg n=dg (n / 16)++[n % 16]:=by
 unfold dg;rw[ky<|by lia];by_cases c:n < 256
 ·rw[kz c,kz<|by lia];rfl
 ·rw[ky c,ky (by lia),kz<|by lia];show [n / 256,n / 16 % 16,n % 16]=[n / 16 / 16,n / 16 % 16,n % 16]
  rw[Nat.div_div_eq_div_mul]
def Zw(n:Nat):1<=(dg n).length/\(dg n).length<=3:=by
 unfold dg;split
 ·exact⟨kg _,by show 1<=3;decide⟩
 ·split
  ·exact⟨by show 1<=2;decide,by show 2<=3;decide⟩
  ·exact⟨by show 1<=3;decide,kg _⟩
def z95{m n:Nat}(h:m<=n):(dg m).length<=(dg n).length:=by
 unfold dg;by_cases a:n < 16
 ·rw[kz a,kz<|by lia];exact kg _
 ·rw[ky a];by_cases b:n < 256
  ·rw[kz b];split
   ·show 1<=2;decide
   ·rw[kz<|by lia];exact kg _
  ·rw[ky b];split
   ·show 1<=3;decide
   ·split
    ·show 2<=3;decide
    ·exact kg _
def zbX{n:Nat}(h:n < 4096):∀d∈dg n,d < 16:=by
 unfold dg;intro d hd;split at hd
 ·simp at hd;lia
 ·split at hd
  ·simp at hd;rcases hd with rfl|rfl <;> lia
  ·simp at hd;rcases hd with rfl|rfl|rfl <;> lia
def Le(S T:List Nat):Prop:=S.length=T.length/\∀(i:Nat) x y,S[i]?=some x->T[i]?=some y->x<=y
def Le.refl(S:List Nat):Le S S:=⟨rfl,fun i x y a b=>by rw[a] at b;cases b;exact kg _⟩
def Le.trans{S T U:List Nat}(a:Le S T)(b:Le T U):Le S U:=⟨a.1.trans b.1,fun i x z h1 h2=>by
 have il:i < T.length:=by rw[<-a.1];exact (kh.mp h1).1
 exact kr (a.2 i x T[i] h1<|kL il) (b.2 i T[i] z (kL il) h2)⟩
def Le.anti{S T:List Nat}(a:Le S T)(b:Le T S):S=T:=by
 refine Af fun i=>?_
 by_cases h:i < S.length
 ·have h':i < T.length:=by rw[<-a.1];exact h
  rw[kL h,kL h'];congr 1
  exact Nat.le_antisymm (a.2 i _ _ (kL h)<|kL h') (b.2 i _ _ (kL h')<|kL h)
 ·rw[vp (by lia),vp<|by rw[<-a.1];lia]
def Le.cons{x y:Nat}{S T:List Nat}(h:Le (x::S) (y::T)):x<=y/\Le S T:=
 ⟨h.2 0 x y rfl rfl,by have:=h.1;simpa using this,fun i a b e1 e2=>h.2 (i+1) a b (by simpa using e1)<|by simpa using e2⟩
def Le.sum_take:∀{S T:List Nat}(k:Nat),Le S T->(S.take k).sum<=(T.take k).sum
|[],[],k,_=>by simp
|[],_::_,_,h=>by have:=h.1;simp at this
|_::_,[],_,h=>by have:=h.1;simp at this
|x::S,y::T,0,_=>by simp
|x::S,y::T,k+1,h=>by
  obtain⟨h1,h2⟩:=h.cons;have:=Le.sum_take k h2
  simp only[List.take_succ_cons,List.sum_cons];lia
def Le.sum:∀{S T:List Nat},Le S T->S.sum<=T.sum:=fun {S T} h=>by
 have:=h.sum_take S.length
 rw[vC,h.1,vC] at this;exact this
def Le.sum_lt:∀{S T:List Nat},Le S T->S≠T->S.sum < T.sum
|[],[],_,n=>vd rfl n
|[],_::_,h,_=>by have:=h.1;simp at this
|_::_,[],h,_=>by have:=h.1;simp at this
|x::S,y::T,h,n=>by
  obtain⟨h1,h2⟩:=h.cons;simp only[List.sum_cons];by_cases e:S=T
  ·subst e;have:x≠y:=fun z=>n (by rw[z])
   lia
  ·have:=Le.sum_lt h2 e
   lia
def ZK{S:List Nat}{k:Nat}(h:∀x∈S,x<=k):S.sum<=k * S.length:=by
 induction S with
|nil=>simp
|cons x S ih=>
  have h1:=h x (kQ ..);have h2:=ih fun y hy=>h y (kR _ hy)
  simp only[List.sum_cons,kP,Nat.mul_succ];lia
structure JH(F:List Nat->List (Option Nat))(n:Nat):Prop where
 len:∀S,S.length=n->(F S).length=n
 same:∀S T (i:Nat),S.length=n->T.length=n->(F S)[i]?=some none->(F T)[i]?=some none
 mono:∀S T (i:Nat) x y,Le S T->S.length=n->(F S)[i]?=some (some x)->(F T)[i]?=some (some y)->x<=y
 lt:∀S,S.length=n->(∀x∈S,x<=3)->∀x,some x∈F S->x < 4096
noncomputable def dgO(o:Option Nat):List Nat:=o.elim [] dg
noncomputable def jV(F:List Nat->List (Option Nat))(S:List Nat):List (List Nat):=(F S).map dgO
noncomputable def szs(F:List Nat->List (Option Nat))(S:List Nat):List Nat:=(jV F S).map List.length
section
variable {F:List Nat->List (Option Nat)}{n:Nat}
def QU(N:JH F n){S:List Nat}(h:S.length=n):(szs F S).length=n:=by
 unfold szs jV;rw[kl,kl,N.len S h]
def z5n(o:Option Nat):(dgO o).length<=3:=by
 cases o with
|none=>exact vj _
|some k=>exact (Zw k).2
def z3W(S:List Nat):∀x∈szs F S,x<=3:=by
 intro x hx;obtain⟨d,hd,rfl⟩:=yf.mp hx;obtain⟨o,_,rfl⟩:=yf.mp hd;exact z5n o
def JN(N:JH F n){S T:List Nat}(h:Le S T)(hS:S.length=n):Le (szs F S) (szs F T):=by
 have hT:T.length=n:=h.1.symm.trans hS;refine⟨(QU N hS).trans (QU N hT).symm,fun i x y e1 e2=>?_⟩;unfold szs jV at e1 e2;rw[Ak,vh] at e1 e2;obtain⟨a,ha,rfl⟩:=Ad.mp e1;obtain⟨b,hb,rfl⟩:=Ad.mp e2;show (dgO a).length<=(dgO b).length;cases a with
|none=>exact vj _
|some k=>
  cases b with
 |none=>
   have:=N.same T S i hT hS hb
   rw[ha] at this;cases this
 |some l=>exact z95 (N.mono S T i k l h hS ha hb)
structure Grow(F:List Nat->List (Option Nat))(n:Nat)(S:List Nat):Prop where
 len:S.length=n
 le3:∀x∈S,x<=3
 up:Le S (szs F S)
 low:∀T,T.length=n->Le (szs F T) T->Le S T
def Grow.start(N:JH F n):Grow F n (List.replicate n 0):=by
 have hl:(List.replicate n (0:Nat)).length=n:=vk ..;have z:∀T:List Nat,T.length=n->Le (List.replicate n 0) T:=fun T hT=>⟨hl.trans hT.symm,fun i x y e1 _=>by
  rw[vt] at e1;split at e1
  ·cases e1;exact vj _
  ·cases e1⟩
 exact⟨hl,fun x hx=>by rw[(List.mem_replicate.mp hx).2];decide,z _<|QU N hl,fun T hT _=>z T hT⟩
def Grow.next(N:JH F n){S:List Nat}(g:Grow F n S):Grow F n (szs F S):=
 ⟨QU N g.len,z3W S,JN N g.up g.len,fun T hT h=>(JN N (g.low T hT h) g.len).trans h⟩
structure Zr(F:List Nat->List (Option Nat))(n:Nat)(S:List Nat):Prop where
 len:S.length=n
 le3:∀x∈S,x<=3
 fix:szs F S=S
 low:∀T,T.length=n->Le (szs F T) T->Le S T
def Grow.fin{S:List Nat}(g:Grow F n S)(e:szs F S=S):Zr F n S:=⟨g.len,g.le3,e,g.low⟩
def Grow.more{S:List Nat}(g:Grow F n S)(e:szs F S≠S):3 * n - (szs F S).sum < 3 * n - S.sum:=by
 have h1:=g.up.sum_lt (Ne.symm e);have h2:=ZK (z3W (F:=F) S);have h3:(szs F S).length=n:=g.up.1.symm.trans g.len;rw[h3] at h2;lia
end
noncomputable def QE(r:Row)(s:Sta):Option Sta:=if inT r.op jc=true then none else some (qG r s.1,qx r s.1 s.2<|tabI qp r.op)
noncomputable def tgts(r:Row)(s:Sta):List (Int × Sta):=
 (if inT r.op jumping=true then [(argM r.arg,((if inT r.op leaving=true then s.1 else qG r s.1),s.2))] else [])++
 (if inT r.op faulting=true then (match s.2.getLast? with
 |some g=>[(g.1,(g.2+1,s.2.dropLast))]
 |none=>[]) else [])
noncomputable def jk(r:Row)(s:Sta):Bool:= !decide (s.1 < qK r)&& !Jf r s.2.getLast?&& !jv r s.1 s.2.getLast?&&decide (s.2.length<=1000)
noncomputable def chk(Γ:Int->Option Sta):List Row->Option Sta->Option (Option Sta)
|[],c=>some c
|r::l,c=>
  if r.op="label" then (match Γ (argM r.arg),c with
  |some s,some s'=>if s=s'/\jk r s=true then chk Γ l (some s) else none
  |some s,none=>if jk r s=true then chk Γ l (some s) else none
  |none,none=>chk Γ l none
  |none,some _=>none)
  else (match c with
  |none=>chk Γ l none
  |some s=>if jk r s=true/\(tgts r s).all (fun t=>decide (Γ t.1=some t.2))=true then chk Γ l (QE r s) else none)
noncomputable def stOf(Γ:Int->Option Sta):List Row->Option Sta->Fnd
|[],_=>[]
|r::l,c=>
  if r.op="label" then Γ (argM r.arg)::stOf Γ l (Γ<|argM r.arg)
  else c::stOf Γ l (match c with
  |none=>none
  |some s=>QE r s)
def QI(Γ:Int->Option Sta):∀(l:List Row)(c:Option Sta),(stOf Γ l c).length=l.length
|[],_=>rfl
|r::l,c=>by
  unfold stOf;split
  ·rw[kP,QI Γ l,kP]
  ·rw[kP,QI Γ l,kP]
def Zq(Γ:Int->Option Sta)(r:Row)(l:List Row)(c:Option Sta):chk Γ (r::l) c=
  if r.op="label" then (match Γ (argM r.arg),c with
  |some s,some s'=>if s=s'/\jk r s=true then chk Γ l (some s) else none
  |some s,none=>if jk r s=true then chk Γ l (some s) else none
  |none,none=>chk Γ l none
  |none,some _=>none)
  else (match c with
  |none=>chk Γ l none
  |some s=>if jk r s=true/\(tgts r s).all (fun t=>decide (Γ t.1=some t.2))=true then chk Γ l (QE r s) else none):=rfl
def zp(Γ:Int->Option Sta):∀(a b:List Row)(c:Option Sta),chk Γ (a++b) c=(chk Γ a c).bind fun c'=>chk Γ b c'
 :=by
 intro a;induction a with
|nil=>intro b c;rfl
|cons r a ih=>
  intro b c;rw[List.cons_append,Zq,Zq];by_cases hl:r.op="label"
  ·rw[kz hl,kz hl];cases Γ (argM r.arg) with
  |none=>cases c with
   |none=>exact ih b _
   |some s'=>rfl
  |some s=>cases c with
   |none=>
     dsimp only;by_cases hz:jk r s=true
     ·rw[kz hz,kz hz];exact ih b _
     ·rw[ky hz,ky hz];rfl
   |some s'=>
     dsimp only;by_cases hz:s=s'/\jk r s=true
     ·rw[kz hz,kz hz];exact ih b _
     ·rw[ky hz,ky hz];rfl
  ·rw[ky hl,ky hl];cases c with
  |none=>exact ih b _
  |some s=>
    dsimp only;by_cases hz:jk r s=true/\(tgts r s).all (fun t=>decide (Γ t.1=some t.2))=true
    ·rw[kz hz,kz hz];exact ih b _
    ·rw[ky hz,ky hz];rfl
structure Fits(Γ:Int->Option Sta)(l:List Row)(S:Fnd)(i:Nat)(r:Row)(s:Sta):Prop where
 ok:jk r s=true
 tg:∀t∈tgts r s,Γ t.1=some t.2
 nx:∀s',QE r s=some s'->S[i+1]?=some (some s')
def z21:inT "label" jc=false:=vW
def z3w(r:Row)(h:r.op="label")(s:Sta):QE r s=some s:=by
 unfold QE;rw[h,z21,ky ke];unfold qG;rw[h];have e1:tabI jo "label"=0:=vW;have e2:tabI j8 "label"=0:=vW;have e3:tabI qp "label"=0:=vW;rw[e1,e2,e3];unfold qx;rw[ky (by decide),ky<|by decide];simp
def z3v(r:Row)(h:r.op="label")(s:Sta):tgts r s=[]:=by
 unfold tgts;have e1:inT "label" jumping=false:=vW;have e2:inT "label" faulting=false:=vW;rw[h,e1,e2,ky ke,ky ke];rfl
def z1C{Γ:Int->Option Sta}{l:List Row}{s:Sta}{c':Option Sta}(h:chk Γ l (some s)=some c')(hc:c'=none):(stOf Γ l<|some s)[0]?=some (some s):=by
 cases l with
|nil=>cases h;cases hc
|cons r l=>
  unfold chk at h;unfold stOf;by_cases hl:r.op="label"
  ·rw[kz hl] at h;rw[kz hl];cases e:Γ (argM r.arg) with
  |none=>rw[e] at h;cases h
  |some s2=>
    rw[e] at h;dsimp only at h;by_cases hz:s2=s/\jk r s2=true
    ·rw[hz.1];rfl
    ·rw[ky hz] at h;cases h
  ·rw[ky hl];rfl
def z7a{Γ:Int->Option Sta}:∀(l:List Row)(c:Option Sta),chk Γ l c=some none->∀(i:Nat) r s,l[i]?=some r->(stOf Γ l c)[i]?=some (some s)->Fits Γ l (stOf Γ l c) i r s
 :=by
 intro l;induction l with
|nil=>intro _ _ i r s hr _;cases hr
|cons r0 l ih=>
  intro c h i r s hr hs;unfold chk at h;unfold stOf at hs ⊢
  by_cases hl:r0.op="label"
  ·rw[kz hl] at h hs ⊢
   have go:∀{c2:Option Sta},Γ (argM r0.arg)=c2->chk Γ l c2=some none->(∀s0,c2=some s0->jk r0 s0=true)->Fits Γ (r0::l) (Γ (argM r0.arg)::stOf Γ l (Γ<|argM r0.arg)) i r s:=by
    intro c2 e h2 hok;rw[e] at hs ⊢
    cases i with
   |zero=>
     cases hr;have es:c2=some s:=by simpa using hs
     subst es;refine⟨hok s rfl,fun t ht=>?_,fun s' hn=>?_⟩
     ·rw[z3v r0 hl] at ht;cases ht
     ·rw[z3w r0 hl] at hn;cases hn;exact z1C h2 rfl
   |succ i=>
     have F:=ih c2 h2 i r s hr hs;exact⟨F.ok,F.tg,F.nx⟩
   cases e:Γ (argM r0.arg) with
  |none=>
    rw[e] at h;cases c with
   |some s'=>cases h
   |none=>have:=go e h (fun _ z=>by cases z);rw[e] at this;exact this
  |some s2=>
    rw[e] at h;cases c with
   |some s'=>
     dsimp only at h;by_cases hz:s2=s'/\jk r0 s2=true
     ·rw[kz hz] at h;have:=go e h (fun _ z=>by cases z;exact hz.2);rw[e] at this;exact this
     ·rw[ky hz] at h;cases h
   |none=>
     dsimp only at h;by_cases hz:jk r0 s2=true
     ·rw[kz hz] at h;have:=go e h (fun _ z=>by cases z;exact hz);rw[e] at this;exact this
     ·rw[ky hz] at h;cases h
  ·rw[ky hl] at h hs ⊢
   cases c with
  |none=>
    dsimp only at h hs ⊢
    cases i with
   |zero=>cases hs
   |succ i=>
     have F:=ih none h i r s hr hs;exact⟨F.ok,F.tg,F.nx⟩
  |some s0=>
    dsimp only at h hs ⊢
    by_cases hz:jk r0 s0=true/\(tgts r0 s0).all (fun t=>decide (Γ t.1=some t.2))=true
    case neg=>rw[ky hz] at h;cases h
    rw[kz hz] at h;cases i with
   |zero=>
     cases hr;cases hs;refine⟨hz.1,fun t ht=>kD<|List.all_eq_true.mp hz.2 t ht,fun s' hn=>?_⟩;rw[hn] at h ⊢
     exact z1C h rfl
   |succ i=>
     have F:=ih _ h i r s hr hs;exact⟨F.ok,F.tg,F.nx⟩
def JO{Γ:Int->Option Sta}:∀(l:List Row)(c:Option Sta)(q:Nat)(r:Row),l[q]?=some r->r.op="label"->(stOf Γ l c)[q]?=some (Γ<|argM r.arg)
|[],_,_,_,h,_=>by cases h
|r0::l,c,0,r,h,hl=>by
  cases h;unfold stOf;rw[kz hl];rfl
|r0::l,c,q+1,r,h,hl=>by
  unfold stOf;split
  ·exact JO l _ q r h hl
  ·exact JO l _ q r h hl
def zar{rs:List Row}{m:Int}{q:Nat}(h:zA rs m=some q):∃r,rs[q]?=some r/\r.op="label"/\argM r.arg=m:=by
 unfold zA at h;obtain⟨hq,hp,_⟩:=List.findIdx?_eq_some_iff_getElem.mp h;refine⟨rs[q],kL hq,?_⟩;unfold labP at hp;rw[yd,ye,ye] at hp;exact⟨hp.1,by rw[hp.2];rfl⟩
def z2j{rs:List Row}{Γ:Int->Option Sta}(hΓ:∀m s,Γ m=some s->(zA rs m).isSome=true)(h:chk Γ rs (some (0,[]))=some none):z5J rs (stOf Γ rs<|some (0,[])):=by
 have hlab:∀m s,Γ m=some s->∃q:Nat,labV rs m=.int (q:Int)/\q < rs.length/\(stOf Γ rs<|some (0,[]))[q]?=some (some s):=by
  intro m s e;obtain⟨q,hq⟩:=Ag.mp (hΓ m s e);obtain⟨r,hr,ho,ha⟩:=zar hq;refine⟨q,by unfold labV;rw[hq],(kh.mp hr).1,?_⟩;rw[JO rs _ q r hr ho,ha,e]
 have F:=z7a rs (some (0,[])) h;have lead:∀(p:Nat) r s,rs[p]?=some r->(stOf Γ rs<|some (0,[]))[p]?=some (some s)->∀m∈ji rs p r s.1 s.2.getLast?,∃j:Nat,m.1=.int (j:Int)/\j < rs.length/\(stOf Γ rs<|some (0,[]))[j]?=some (some (m.2.1,qx r s.1 s.2 m.2.2)):=by
  intro p r s hr hs m hm;have f:=F p r s hr hs;have hok:=f.ok;unfold jk at hok;simp only[yd,Bool.not_eq_true',ye,decide_eq_false_iff_not] at hok;obtain⟨⟨⟨k1,k2⟩,k3⟩,k4⟩:=hok;unfold ji at hm;rw[ki k1,ky ke,k2,ky ke] at hm;rcases kS.mp hm with hm|hm
  ·rcases kS.mp hm with hm|hm
   ·unfold mv1 at hm;by_cases hn:inT r.op jc=true
    ·rw[kz hn] at hm;cases hm
    ·rw[ky hn] at hm;rw[ko.mp hm];have e:=f.nx (qG r s.1,qx r s.1 s.2<|tabI qp r.op) (by unfold QE;rw[ky hn]);refine⟨p+1,by push_cast;rfl,?_,e⟩;have:=(kh.mp e).1
     rw[QI] at this;exact this
   ·unfold mv2 at hm;by_cases hj:inT r.op jumping=true
    ·rw[kz hj] at hm;rw[ko.mp hm];obtain⟨q,h1,h2,h3⟩:=hlab _ _ (f.tg (argM r.arg,((if inT r.op leaving=true then s.1 else qG r s.1),s.2)) (by
      unfold tgts;rw[kz hj];exact kO _ (ko.mpr rfl)))
     refine⟨q,h1,h2,?_⟩;have e0:qx r s.1 s.2 0=s.2:=by unfold qx;rw[ky (by decide),ky<|by decide]
     show _=some (some ((if inT r.op leaving=true then s.1 else qG r s.1),qx r s.1 s.2 0));rw[e0];exact h3
    ·rw[ky hj] at hm;cases hm
  ·unfold mv3 at hm;by_cases hf:inT r.op faulting=true
   ·rw[kz hf] at hm;cases hg:s.2.getLast? with
   |none=>rw[hg] at hm;cases hm
   |some g=>
     rw[hg] at hm;rw[ko.mp hm];obtain⟨q,h1,h2,h3⟩:=hlab _ _ (f.tg (g.1,(g.2+1,s.2.dropLast)) (by
      unfold tgts;rw[kz hf,hg];exact kN _ (ko.mpr rfl)))
     refine⟨q,h1,h2,?_⟩;have e0:qx r s.1 s.2 (-1)=s.2.dropLast:=by unfold qx;rw[ky (by decide),kz rfl]
     show _=some (some (g.2+1,qx r s.1 s.2 (-1)));rw[e0];exact h3
   ·rw[ky hf] at hm;cases hm
 refine⟨QI _ _ _,z1C h rfl,fun p r s hr hs=>?_,fun p r s hr hs x s' hx=>?_⟩
 ·have hok:=(F p r s hr hs).ok;unfold jk at hok;simp only[yd,Bool.not_eq_true',ye,decide_eq_false_iff_not] at hok;obtain⟨⟨⟨k1,k2⟩,k3⟩,k4⟩:=hok;refine⟨?_,k4⟩;have hend:inV (.int (rs.length:Nat)) ((ji rs p r s.1 s.2.getLast?).map (·.1))=false:=by
   unfold inV;rw[List.any_eq_false];intro y hy;obtain⟨m,hm,rfl⟩:=yf.mp hy;obtain⟨j,h1,h2,_⟩:=lead p r s hr hs m hm;rw[h1];intro z;have z:decide ((j:Int)=(rs.length:Int))=true:=by
    first
    |exact z
    |simpa [eqV] using z
   have:=kD z
   lia
  unfold QR QS;rw[ki k1,k2,k3,hend];rfl
 ·unfold Qk at hx;obtain⟨m,hm,e⟩:=yf.mp hx;cases e;obtain⟨j,h1,_,h3⟩:=lead p r s hr hs m hm;exact⟨j,h1,h3⟩
structure GOk(d:Int)(gs:List Gd)(n:Nat):Prop where
 pos:0<=d
 len:gs.length+n<=1000
 top:∀g,gs.getLast?=some g->g.2<=d
def GEnv(Γ:Int->Option Sta)(gs:List Gd):Prop:=∀g,gs.getLast?=some g->Γ g.1=some (g.2+1,gs.dropLast)
def Ext(Γ Γl:Int->Option Sta)(k k':Nat):Prop:=∀m:Nat,k<=m->m < k'->Γ (m:Int)=Γl (m:Int)
structure Ty(δ:Int)(sure:Bool)(k k':Nat)(l:List Row):Prop where
 go:∀d gs,GOk d gs l.length->∃(Γl:Int->Option Sta)(c':Option Sta),(c'=some (d+δ,gs)\/(sure=false/\c'=none))/\∀Γ,Ext Γ Γl k k'->GEnv Γ gs->chk Γ l (some (d,gs))=some c'
 off:∀Γ:Int->Option Sta,(∀m:Nat,k<=m->m < k'->Γ (m:Int)=none)->chk Γ l none=some none
def Ty.nil(k:Nat):Ty 0 true k k []:=⟨fun d gs _=>⟨fun _=>none,some (d,gs),.inl (by rw[vQ]),fun _ _ _=>rfl⟩,fun _ _=>rfl⟩
def Ty.app{δ1 δ2:Int}{s1 s2:Bool}{k k1 k2:Nat}{a b:List Row}(x:Ty δ1 s1 k k1 a)(y:Ty δ2 s2 k1 k2 b)(h1:k<=k1)(h2:k1<=k2)(hp:0<=δ1):Ty (δ1+δ2) (s1&&s2) k k2 (a++b):=by
 refine⟨fun d gs hg=>?_,fun Γ hΓ=>?_⟩
 ·have hl:=hg.len;rw[km] at hl;obtain⟨Γa,ca,hca,ha⟩:=x.go d gs ⟨hg.pos,by lia,hg.top⟩;have mix:∀Γb:Int->Option Sta,∃Γl:Int->Option Sta,∀Γ,Ext Γ Γl k k2->Ext Γ Γa k k1/\Ext Γ Γb k1 k2:=fun Γb=>
   ⟨fun m=>if m < (k1:Int) then Γa m else Γb m,fun Γ h=>⟨fun m m1 m2=>(h m m1<|by lia).trans<|kz<|by lia,fun m m1 m2=>(h m (by lia) m2).trans<|ky<|by lia⟩⟩
  rcases hca with rfl|⟨hs,rfl⟩
  ·obtain⟨Γb,cb,hcb,hb⟩:=y.go (d+δ1) gs ⟨by have:=hg.pos;lia,by lia,fun g e=>by have:=hg.top g e;lia⟩;obtain⟨Γl,hm⟩:=mix Γb;refine⟨Γl,cb,?_,fun Γ he hE=>?_⟩
   ·rcases hcb with h|⟨h,h'⟩
    ·exact .inl (by rw[h,Int.add_assoc])
    ·exact .inr ⟨by rw[h,Bool.and_false],h'⟩
   ·obtain⟨e1,e2⟩:=hm Γ he;rw[zp,ha Γ e1 hE];exact hb Γ e2 hE
  ·obtain⟨Γl,hm⟩:=mix fun _=>none
   refine⟨Γl,none,.inr ⟨by rw[hs,vB],rfl⟩,fun Γ he hE=>?_⟩;obtain⟨e1,e2⟩:=hm Γ he;rw[zp,ha Γ e1 hE];exact y.off Γ e2
 ·rw[zp,x.off Γ fun m m1 m2=>hΓ m m1<|by lia];exact y.off Γ fun m m1 m2=>hΓ m (by lia) m2
def Z6{Γ:Int->Option Sta}{r:Row}{s:Sta}(hl:r.op≠"label")(ho:jk r s=true)(ht:∀t∈tgts r s,Γ t.1=some t.2):chk Γ [r] (some s)=some (QE r s):=by
 rw[Zq,ky hl];dsimp only;rw[kz ⟨ho,List.all_eq_true.mpr fun t h=>kj<|ht t h⟩];rfl
def zJ{Γ:Int->Option Sta}{r:Row}(hl:r.op≠"label"):chk Γ [r] none=some none:=by
 rw[Zq,ky hl];rfl
def jx{r:Row}{d:Int}{gs:List Gd}(h1:qK r<=d)(h2:∀g,gs.getLast?=some g->g.2<=d - qK r)(h3:r.op≠"endtry")(h4:gs.length<=1000):jk r (d,gs)=true:=by
 unfold jk Jf;have e1:decide (d < qK r)=false:=ki (by lia);have e2:jv r d gs.getLast?=false:=by
  unfold jv;cases e:gs.getLast? with
 |none=>rfl
 |some g=>
   have:=h2 g e
   dsimp only;split
   ·rfl
   ·refine ki ?_;split <;> split <;> lia
 show (!decide (d < qK r)&& !(decide (r.op="endtry")&&gs.getLast?.isNone)&& !jv r d gs.getLast?&&decide (gs.length<=1000))=true;rw[e1,e2,ki h3,kj h4];rfl
structure Zi(op:Str)(a b:Int):Prop where
 lab:op≠"label"
 et:op≠"endtry"
 deep:inT op jG=false
 takes:tabI jo op=a
 pushes:tabI j8 op=b
 on:inT op jc=false
 jump:inT op jumping=false
 gput:tabI qp op=0
def Zi.asked{op:Str}{a b:Int}(h:Zi op a b)(arg:V)(l:Int):qK ⟨op,arg,l⟩=a:=by
 unfold qK;rw[h.deep,ky ke];exact h.takes
def Zi.chk{op:Str}{a b:Int}(h:Zi op a b){Γ:Int->Option Sta}{d:Int}{gs:List Gd}(arg:V)(l:Int)(hd:a<=d)(hg:∀g,gs.getLast?=some g->g.2<=d - a)(hz:gs.length<=1000)(hE:GEnv Γ gs):
  chk Γ [⟨op,arg,l⟩] (some (d,gs))=some (some (d - a+b,gs)):=by
 rw[Z6 h.lab<|jx (by rw[h.asked];exact hd) (by rw[h.asked];exact hg) h.et hz]
 ·unfold QE;rw[h.on,ky ke];unfold qG qx;rw[h.takes,h.pushes,h.gput,ky (by decide),ky<|by decide]
 ·intro t ht;unfold tgts at ht;rw[h.jump,ky ke,List.nil_append] at ht;by_cases hf:inT op faulting=true
  ·rw[kz hf] at ht;cases e:gs.getLast? with
  |none=>
    rw[show ((d,gs):Sta).2.getLast?=none from e] at ht;cases ht
  |some g=>
    rw[show ((d,gs):Sta).2.getLast?=some g from e] at ht;rw[ko.mp ht];exact hE g e
  ·rw[ky hf] at ht;cases ht
def Ty.row{δ:Int}{k k':Nat}{l:List Row}(x:Ty δ true k k' l){op:Str}{a b:Int}(h:Zi op a b)(hd:a<=δ)(arg:V)(ln:Int):Ty (δ - a+b) true k k' (l++[⟨op,arg,ln⟩]):=by
 refine⟨fun d gs hg=>?_,fun Γ hΓ=>?_⟩
 ·have hl:=hg.len;rw[km,kG] at hl;obtain⟨Γa,ca,hca,ha⟩:=x.go d gs ⟨hg.pos,by lia,hg.top⟩;have hca:ca=some (d+δ,gs):=by
   rcases hca with h|⟨h,_⟩
   ·exact h
   ·cases h
  subst hca;refine⟨Γa,some (d+(δ - a+b),gs),.inl rfl,fun Γ he hE=>?_⟩;rw[zp,ha Γ he hE];show My.chk Γ [⟨op,arg,ln⟩] (some (d+δ,gs))=_;rw[h.chk arg ln (by have:=hg.pos;lia) (fun g e=>by have:=hg.top g e;lia) (by lia) hE];congr 3
  lia
 ·rw[zp,x.off Γ hΓ];exact zJ h.lab
def z08:Zi "push" 0 1:=⟨vW,vW,vW,vW,vW,vW,vW,vW⟩
def z1U:Zi "load" 0 1:=⟨vW,vW,vW,vW,vW,vW,vW,vW⟩
def Qu:∀op∈(["add","sub","mul","div","rest","less","same"]:List Str),Zi op 2 1:=by
 intro op h;simp only[kE,kq,or_false] at h;rcases h with rfl|rfl|rfl|rfl|rfl|rfl|rfl
 all_goals exact⟨vW,vW,vW,vW,vW,vW,vW,vW⟩
def z4m:∀op∈(["neg","not"]:List Str),Zi op 1 1:=by
 intro op h;simp only[kE,kq,or_false] at h;rcases h with rfl|rfl
 all_goals exact⟨vW,vW,vW,vW,vW,vW,vW,vW⟩
def js:∀op∈(["drop","tell","store"]:List Str),Zi op 1 0:=by
 intro op h;simp only[kE,kq,or_false] at h;rcases h with rfl|rfl|rfl
 all_goals exact⟨vW,vW,vW,vW,vW,vW,vW,vW⟩
def z64:Zi "clear" 0 0:=⟨vW,vW,vW,vW,vW,vW,vW,vW⟩
structure Op(op:Str)(a b g:Int)(on jump leave fault:Bool):Prop where
 deep:inT op jG=false
 takes:tabI jo op=a
 pushes:tabI j8 op=b
 gput:tabI qp op=g
 on:inT op jc= !on
 jump:inT op jumping=jump
 leave:inT op leaving=leave
 fault:inT op faulting=fault
def Op.asked{op:Str}{a b g:Int}{on j lv f:Bool}(h:Op op a b g on j lv f)(arg:V)(l:Int):qK ⟨op,arg,l⟩=a:=by
 unfold qK;rw[h.deep,ky ke];exact h.takes
def Op.next{op:Str}{a b g:Int}{on j lv f:Bool}(h:Op op a b g on j lv f)(arg:V)(l:Int)(s:Sta):QE ⟨op,arg,l⟩ s=if on=true then some (s.1 - a+b,qx ⟨op,arg,l⟩ s.1 s.2 g) else none:=by
 unfold QE qG;rw[h.on,h.takes,h.pushes,h.gput];cases on <;> rfl
def Op.tg{op:Str}{a b g:Int}{on j lv f:Bool}(h:Op op a b g on j lv f){Γ:Int->Option Sta}{m:Int}{l:Int}{d:Int}{gs:List Gd}(hj:j=true->Γ m=some ((if lv=true then d else d - a+b),gs))(hf:f=true->GEnv Γ gs):∀t∈tgts ⟨op,.int m,l⟩ (d,gs),Γ t.1=some t.2:=by
 intro t ht;unfold tgts qG at ht;rw[h.jump,h.leave,h.fault,h.takes,h.pushes] at ht;rcases kS.mp ht with ht|ht
 ·cases j with
 |false=>cases ht
 |true=>
   rw[kz rfl] at ht;rw[ko.mp ht];exact hj rfl
 ·cases f with
 |false=>cases ht
 |true=>
   rw[kz rfl] at ht;cases e:gs.getLast? with
  |none=>rw[show ((d,gs):Sta).2.getLast?=none from e] at ht;cases ht
  |some g=>
    rw[show ((d,gs):Sta).2.getLast?=some g from e] at ht;rw[ko.mp ht];exact hf rfl g e
def z6n:∀op∈(["ortrue","orfalse"]:List Str),Op op 1 0 0 true true true false/\op≠"label"/\op≠"endtry":=by
 intro op h;simp only[kE,kq,or_false] at h;rcases h with rfl|rfl
 all_goals exact⟨⟨vW,vW,vW,vW,vW,vW,vW,vW⟩,vW,vW⟩
def z6o:∀op∈(["iftrue","iffalse"]:List Str),Op op 1 0 0 true true false false/\op≠"label"/\op≠"endtry":=by
 intro op h;simp only[kE,kq,or_false] at h;rcases h with rfl|rfl
 all_goals exact⟨⟨vW,vW,vW,vW,vW,vW,vW,vW⟩,vW,vW⟩
def z0g:Op "jump" 0 0 0 false true false false:=⟨vW,vW,vW,vW,vW,vW,vW,vW⟩
def z2A:Op "try" 0 0 1 true false false false:=⟨vW,vW,vW,vW,vW,vW,vW,vW⟩
def Zd:Op "endtry" 0 0 (-1) true false false false:=⟨vW,vW,vW,vW,vW,vW,vW,vW⟩
def ZT:Op "raise" 1 0 0 false false false true:=⟨vW,vW,vW,vW,vW,vW,vW,vW⟩
def Zc:Op "return" 1 0 0 false false false false:=⟨vW,vW,vW,vW,vW,vW,vW,vW⟩
def z2C:Op "label" 0 0 0 true false false false:=⟨vW,vW,vW,vW,vW,vW,vW,vW⟩
def gs0(r:Row)(d:Int)(gs:List Gd):qx r d gs 0=gs:=by unfold qx;rw[ky (by decide),ky<|by decide]
section
variable {Γ:Int->Option Sta}{d m l:Int}{gs:List Gd}
def z5y{op:Str}(h:op∈(["ortrue","orfalse"]:List Str))(h0:0<=d)(ht:∀g,gs.getLast?=some g->g.2<=d)(hz:gs.length<=1000)(hΓ:Γ m=some (d+1,gs)):chk Γ [⟨op,.int m,l⟩] (some (d+1,gs))=some (some (d,gs)):=by
 obtain⟨o,h1,h2⟩:=z6n op h;rw[Z6 h1 (jx (by rw[o.asked];lia) (fun g e=>by rw[o.asked];have:=ht g e;lia) h2 hz)<|o.tg (fun _=>hΓ) nofun,o.next,kz rfl,gs0];congr 3
 show d+1 - 1+0=d;lia
def z2Y{op:Str}(h:op∈(["iftrue","iffalse"]:List Str))(h0:0<=d)(ht:∀g,gs.getLast?=some g->g.2<=d)(hz:gs.length<=1000)(hΓ:Γ m=some (d,gs)):chk Γ [⟨op,.int m,l⟩] (some (d+1,gs))=some (some (d,gs)):=by
 obtain⟨o,h1,h2⟩:=z6o op h;have e:d+1 - 1+0=d:=by lia
 rw[Z6 h1 (jx (by rw[o.asked];lia) (fun g e=>by rw[o.asked];have:=ht g e;lia) h2 hz)<|o.tg (fun _=>by rw[ky ke,e];exact hΓ) nofun,o.next,kz rfl,gs0];congr 3
def Zp(h0:0<=d)(ht:∀g,gs.getLast?=some g->g.2<=d)(hz:gs.length<=1000)(hΓ:Γ m=some (d,gs)):chk Γ [⟨"jump",.int m,l⟩] (some (d,gs))=some none:=by
 have e:d - 0+0=d:=by lia
 rw[Z6 (show ("jump":Str)≠"label" by trivial) (jx (by rw[z0g.asked];lia) (fun g e=>by rw[z0g.asked];have:=ht g e;lia) (show ("jump":Str)≠"endtry" by trivial) hz)<|z0g.tg (fun _=>by rw[ky ke,e];exact hΓ) nofun,z0g.next];rfl
def z5x(h0:0<=d)(ht:∀g,gs.getLast?=some g->g.2<=d)(hz:gs.length<=1000):chk Γ [⟨"try",.int m,l⟩] (some (d,gs))=some (some (d,gs++[(m,d)])):=by
 rw[Z6 (show ("try":Str)≠"label" by trivial) (jx (by rw[z2A.asked];lia) (fun g e=>by rw[z2A.asked];have:=ht g e;lia) (show ("try":Str)≠"endtry" by trivial) hz)<|z2A.tg nofun nofun,z2A.next,kz rfl];unfold qx;rw[kz rfl];congr 3
 show d - 0+0=d;lia
def JD{g:Gd}(h0:0<=d)(ht:g.2<=d)(hz:gs.length+1<=1000):chk Γ [⟨"endtry",.non,l⟩] (some (d,gs++[g]))=some (some (d,gs)):=by
 have hl:(gs++[g]).getLast?=some g:=by rw[List.getLast?_append];rfl
 have ho:jk ⟨"endtry",.non,l⟩ (d,gs++[g])=true:=by
  unfold jk Jf;have e1:decide (d < qK ⟨"endtry",.non,l⟩)=false:=ki (by rw[Zd.asked];lia);have e2:jv ⟨"endtry",.non,l⟩ d (some g)=false:=by
   unfold jv;dsimp only;rw[Zd.asked];split
   ·rfl
   ·refine ki ?_;split <;> split <;> lia
  show (!decide (d < qK ⟨"endtry",.non,l⟩)&& !(decide (("endtry":Str)="endtry")&&(gs++[g]).getLast?.isNone)&& !jv ⟨"endtry",.non,l⟩ d (gs++[g]).getLast?&&decide ((gs++[g]).length<=1000))=true;rw[hl,e1,e2,kj (show (gs++[g]).length<=1000 by rw[km];exact hz)];rfl
 rw[Z6 (show ("endtry":Str)≠"label" by trivial) ho ?_,Zd.next,kz rfl]
 ·unfold qx;rw[ky (by decide),kz rfl,kI];congr 3
  show d - 0+0=d;lia
 ·intro t ht;unfold tgts at ht;rw[Zd.jump,Zd.fault] at ht;cases ht
def z1r(h0:0<=d)(ht:∀g,gs.getLast?=some g->g.2<=d)(hz:gs.length<=1000)(hE:GEnv Γ gs):chk Γ [⟨"raise",.non,l⟩] (some (d+1,gs))=some none:=by
 rw[Z6 (show ("raise":Str)≠"label" by trivial) (jx (by rw[ZT.asked];lia) (fun g e=>by rw[ZT.asked];have:=ht g e;lia) (show ("raise":Str)≠"endtry" by trivial) hz) ?_,ZT.next]
 ·rfl
 ·intro t ht;unfold tgts at ht;rw[ZT.jump,ZT.fault,ky ke,kz rfl,List.nil_append] at ht;cases e:gs.getLast? with
 |none=>rw[show ((d+1,gs):Sta).2.getLast?=none from e] at ht;cases ht
 |some g=>
   rw[show ((d+1,gs):Sta).2.getLast?=some g from e] at ht;rw[ko.mp ht];exact hE g e
def z3M(h0:0<=d)(ht:∀g,gs.getLast?=some g->g.2<=d)(hz:gs.length<=1000):chk Γ [⟨"return",.non,l⟩] (some (d+1,gs))=some none:=by
 rw[Z6 (show ("return":Str)≠"label" by trivial) (jx (by rw[Zc.asked];lia) (fun g e=>by rw[Zc.asked];have:=ht g e;lia) (show ("return":Str)≠"endtry" by trivial) hz) ?_,Zc.next]
 ·rfl
 ·intro t ht;unfold tgts at ht;rw[Zc.jump,Zc.fault] at ht;cases ht
def qj{c:Option Sta}(h0:0<=d)(ht:∀g,gs.getLast?=some g->g.2<=d)(hz:gs.length<=1000)(hΓ:Γ m=some (d,gs))(hc:c=none\/c=some (d,gs)):chk Γ [⟨"label",.int m,l⟩] c=some (some (d,gs)):=by
 have ho:jk ⟨"label",.int m,l⟩ (d,gs)=true:=jx (by rw[z2C.asked];lia) (fun g e=>by rw[z2C.asked];have:=ht g e;lia) (show ("label":Str)≠"endtry" by trivial) hz;rw[Zq,kz rfl,show Γ (argM<|.int m)=some (d,gs) from hΓ];rcases hc with rfl|rfl
 ·dsimp only;rw[kz ho];rfl
 ·dsimp only;rw[kz ⟨rfl,ho⟩];rfl
def zP(hΓ:Γ m=none):chk Γ [⟨"label",.int m,l⟩] none=some none:=by
 rw[Zq,kz rfl,show Γ (argM<|.int m)=none from hΓ];rfl
end
def Ty.sure{δ:Int}{k k':Nat}{l:List Row}(x:Ty δ true k k' l){d:Int}{gs:List Gd}(hg:GOk d gs l.length):∃Γl:Int->Option Sta,∀Γ,Ext Γ Γl k k'->GEnv Γ gs->chk Γ l (some (d,gs))=some (some (d+δ,gs)):=by
 obtain⟨Γl,c',h,q⟩:=x.go d gs hg;rcases h with h|⟨h,_⟩
 ·rw[h] at q;exact⟨Γl,q⟩
 ·cases h
def Ty.orv{k k1 k2:Nat}{l1 l2:List Row}(x:Ty 1 true (k+1) k1 l1)(y:Ty 1 true k1 k2 l2)(h1:k+1<=k1)(h2:k1<=k2){op:Str}(ho:op∈(["ortrue","orfalse"]:List Str))(a b:Int):
  Ty 1 true k k2 (l1++[⟨op,.int (k:Int),a⟩]++l2++[⟨"label",.int (k:Int),b⟩]):=by
 refine⟨fun d gs hg=>?_,fun Γ hΓ=>?_⟩
 ·have hl:=hg.len;simp only[km,kG] at hl;obtain⟨Γ1,q1⟩:=x.sure (d:=d) (gs:=gs) ⟨hg.pos,by lia,hg.top⟩;obtain⟨Γ2,q2⟩:=y.sure (d:=d) (gs:=gs) ⟨hg.pos,by lia,hg.top⟩;refine⟨fun m=>if m=(k:Int) then some (d+1,gs) else if m < (k1:Int) then Γ1 m else Γ2 m,some (d+1,gs),.inl rfl,fun Γ he hE=>?_⟩;have ek:Γ (k:Int)=some (d+1,gs):=(he k (kg _)<|by lia).trans (kz rfl);have e1:Ext Γ Γ1 (k+1) k1:=fun m m1 m2=>(he m (by lia)<|by lia).trans ((ky<|by lia).trans<|kz<|by lia)
  have e2:Ext Γ Γ2 k1 k2:=fun m m1 m2=>(he m (by lia)<|by lia).trans ((ky<|by lia).trans<|ky<|by lia)
  have t1:∀g,gs.getLast?=some g->g.2<=d+1:=fun g e=>by have:=hg.top g e;lia
  rw[zp,zp,zp,q1 Γ e1 hE,kf,z5y ho hg.pos hg.top (by lia) ek,kf,q2 Γ e2 hE,kf];exact qj (by have:=hg.pos;lia) t1 (by lia) ek (.inr rfl)
 ·have ek:Γ (k:Int)=none:=hΓ k (kg _) (by lia);rw[zp,zp,zp,x.off Γ fun m m1 m2=>hΓ m (by lia) (by lia),kf,zJ (z6n op ho).2.1,kf,y.off Γ fun m m1 m2=>hΓ m (by lia) m2,kf];exact zP ek
def Ty.triedv{k k':Nat}{l:List Row}(x:Ty 1 true (k+2) k' l)(h1:k+2<=k')(a b c e f:Int):
  Ty 1 true k k' ([⟨"try",.int (k:Int),a⟩]++l++[⟨"endtry",.non,b⟩]++[⟨"jump",.int ((k+1:Nat):Int),c⟩]++[⟨"label",.int (k:Int),e⟩]++[⟨"label",.int ((k+1:Nat):Int),f⟩]):=by
 refine⟨fun d gs hg=>?_,fun Γ hΓ=>?_⟩
 ·have hl:=hg.len;simp only[km,kG] at hl;have hlast:(gs++[((k:Int),d)]).getLast?=some ((k:Int),d):=by rw[List.getLast?_append];rfl
  obtain⟨Γ1,q1⟩:=x.sure (d:=d) (gs:=gs++[((k:Int),d)]) ⟨hg.pos,by rw[km,kG];lia,fun g z=>by rw[hlast] at z;cases z;exact Int.le_refl _⟩;refine⟨fun m=>if m=(k:Int) then some (d+1,gs) else if m=((k+1:Nat):Int) then some (d+1,gs) else Γ1 m,some (d+1,gs),.inl rfl,fun Γ he hE=>?_⟩;have ek:Γ (k:Int)=some (d+1,gs):=(he k (kg _)<|by lia).trans (kz rfl);have ek1:Γ ((k+1:Nat):Int)=some (d+1,gs):=(he (k+1) (by lia)<|by lia).trans ((ky<|by lia).trans<|kz rfl);have e1:Ext Γ Γ1 (k+2) k':=fun m m1 m2=>(he m (by lia) m2).trans ((ky<|by lia).trans<|ky<|by lia)
  have hE1:GEnv Γ (gs++[((k:Int),d)]):=fun g z=>by
   rw[hlast] at z;cases z;rw[kI];exact ek
  have t1:∀g,gs.getLast?=some g->g.2<=d+1:=fun g z=>by have:=hg.top g z;lia
  have p1:0<=d+1:=by have:=hg.pos;lia
  rw[zp,zp,zp,zp,zp,z5x hg.pos hg.top (by lia),kf,q1 Γ e1 hE1,kf,JD p1 (by show d<=d+1;lia) (by lia),kf,Zp p1 t1 (by lia) ek1,kf,qj p1 t1 (by lia) ek<|.inl rfl,kf];exact qj p1 t1 (by lia) ek1 (.inr rfl)
 ·have ek:Γ (k:Int)=none:=hΓ k (kg _) (by lia);have ek1:Γ ((k+1:Nat):Int)=none:=hΓ (k+1) (by lia) (by lia);rw[zp,zp,zp,zp,zp,zJ (show ("try":Str)≠"label" by trivial),kf,x.off Γ fun m m1 m2=>hΓ m (by lia) m2,kf,zJ (show ("endtry":Str)≠"label" by trivial),kf,zJ (show ("jump":Str)≠"label" by trivial),kf,zP ek,kf];exact zP ek1
def Ty.round{k k1 k2:Nat}{l1 l2:List Row}{su:Bool}(x:Ty 1 true (k+2) k1 l1)(y:Ty 0 su k1 k2 l2)(h1:k+2<=k1)(h2:k1<=k2)(a b c e:Int):
  Ty 0 true k k2 ([⟨"label",.int (k:Int),a⟩]++l1++[⟨"iffalse",.int ((k+1:Nat):Int),b⟩]++l2++[⟨"jump",.int (k:Int),c⟩]++[⟨"label",.int ((k+1:Nat):Int),e⟩]):=by
 refine⟨fun d gs hg=>?_,fun Γ hΓ=>?_⟩
 ·have hl:=hg.len;simp only[km,kG] at hl;obtain⟨Γ1,q1⟩:=x.sure (d:=d) (gs:=gs) ⟨hg.pos,by lia,hg.top⟩;obtain⟨Γ2,c2,hc2,q2⟩:=y.go d gs ⟨hg.pos,by lia,hg.top⟩;refine⟨fun m=>if m=(k:Int) then some (d,gs) else if m=((k+1:Nat):Int) then some (d,gs) else if m < (k1:Int) then Γ1 m else Γ2 m,some (d+0,gs),.inl rfl,fun Γ he hE=>?_⟩;have ek:Γ (k:Int)=some (d,gs):=(he k (kg _)<|by lia).trans (kz rfl);have ek1:Γ ((k+1:Nat):Int)=some (d,gs):=(he (k+1) (by lia)<|by lia).trans ((ky<|by lia).trans<|kz rfl);have e1:Ext Γ Γ1 (k+2) k1:=fun m m1 m2=>(he m (by lia)<|by lia).trans ((ky<|by lia).trans<|(ky<|by lia).trans<|kz<|by lia)
  have e2:Ext Γ Γ2 k1 k2:=fun m m1 m2=>(he m (by lia) m2).trans ((ky<|by lia).trans<|(ky<|by lia).trans<|ky<|by lia)
  rw[zp,zp,zp,zp,zp,qj hg.pos hg.top (by lia) ek<|.inr rfl,kf,q1 Γ e1 hE,kf,z2Y vW hg.pos hg.top (by lia) ek1,kf,q2 Γ e2 hE,kf,vQ];rcases hc2 with rfl|⟨_,rfl⟩
  ·rw[vQ,Zp hg.pos hg.top (by lia) ek,kf];exact qj hg.pos hg.top (by lia) ek1 (.inl rfl)
  ·rw[zJ (show ("jump":Str)≠"label" by trivial),kf];exact qj hg.pos hg.top (by lia) ek1 (.inl rfl)
 ·have ek:Γ (k:Int)=none:=hΓ k (kg _) (by lia);have ek1:Γ ((k+1:Nat):Int)=none:=hΓ (k+1) (by lia) (by lia);rw[zp,zp,zp,zp,zp,zP ek,kf,x.off Γ fun m m1 m2=>hΓ m (by lia) (by lia),kf,zJ (show ("iffalse":Str)≠"label" by trivial),kf,y.off Γ fun m m1 m2=>hΓ m (by lia) m2,kf,zJ (show ("jump":Str)≠"label" by trivial),kf];exact zP ek1
def Ty.choice{k k1 k2 k3:Nat}{l1 l2 l3:List Row}{s2 s3:Bool}(x:Ty 1 true (k+2) k1 l1)(y:Ty 0 s2 k1 k2 l2)(z:Ty 0 s3 k2 k3 l3)(h1:k+2<=k1)(h2:k1<=k2)(h3:k2<=k3){op:Str}(ho:op∈(["iftrue","iffalse"]:List Str))(a b c e:Int):
  Ty 0 true k k3 (l1++[⟨op,.int (k:Int),a⟩]++l2++[⟨"jump",.int ((k+1:Nat):Int),b⟩]++[⟨"label",.int (k:Int),c⟩]++l3++[⟨"label",.int ((k+1:Nat):Int),e⟩]):=by
 refine⟨fun d gs hg=>?_,fun Γ hΓ=>?_⟩
 ·have hl:=hg.len;simp only[km,kG] at hl;obtain⟨Γ1,q1⟩:=x.sure (d:=d) (gs:=gs) ⟨hg.pos,by lia,hg.top⟩;obtain⟨Γ2,c2,hc2,q2⟩:=y.go d gs ⟨hg.pos,by lia,hg.top⟩;obtain⟨Γ3,c3,hc3,q3⟩:=z.go d gs ⟨hg.pos,by lia,hg.top⟩;refine⟨fun m=>if m=(k:Int) then some (d,gs) else if m=((k+1:Nat):Int) then some (d,gs) else if m < (k1:Int) then Γ1 m else if m < (k2:Int) then Γ2 m else Γ3 m,some (d+0,gs),.inl rfl,fun Γ he hE=>?_⟩;have ek:Γ (k:Int)=some (d,gs):=(he k (kg _)<|by lia).trans (kz rfl);have ek1:Γ ((k+1:Nat):Int)=some (d,gs):=(he (k+1) (by lia)<|by lia).trans ((ky<|by lia).trans<|kz rfl);have e1:Ext Γ Γ1 (k+2) k1:=fun m m1 m2=>(he m (by lia)<|by lia).trans ((ky<|by lia).trans<|(ky<|by lia).trans<|kz<|by lia)
  have e2:Ext Γ Γ2 k1 k2:=fun m m1 m2=>(he m (by lia)<|by lia).trans ((ky<|by lia).trans<|(ky<|by lia).trans<|(ky<|by lia).trans<|kz<|by lia)
  have e3:Ext Γ Γ3 k2 k3:=fun m m1 m2=>(he m (by lia)<|by lia).trans ((ky<|by lia).trans<|(ky<|by lia).trans<|(ky<|by lia).trans<|ky<|by lia)
  have j:chk Γ [⟨"jump",.int ((k+1:Nat):Int),b⟩] c2=some none:=by
   rcases hc2 with rfl|⟨_,rfl⟩
   ·rw[vQ];exact Zp hg.pos hg.top (by lia) ek1
   ·exact zJ (show ("jump":Str)≠"label" by trivial)
  rw[zp,zp,zp,zp,zp,zp,q1 Γ e1 hE,kf,z2Y ho hg.pos hg.top (by lia) ek,kf,q2 Γ e2 hE,kf,j,kf,qj hg.pos hg.top (by lia) ek<|.inl rfl,kf,q3 Γ e3 hE,kf,vQ];refine qj hg.pos hg.top (by lia) ek1 ?_;rcases hc3 with rfl|⟨_,rfl⟩
  ·exact .inr (by rw[vQ])
  ·exact .inl rfl
 ·have ek:Γ (k:Int)=none:=hΓ k (kg _) (by lia);have ek1:Γ ((k+1:Nat):Int)=none:=hΓ (k+1) (by lia) (by lia);rw[zp,zp,zp,zp,zp,zp,x.off Γ fun m m1 m2=>hΓ m (by lia) (by lia),kf,zJ (z6o op ho).2.1,kf,y.off Γ fun m m1 m2=>hΓ m (by lia) (by lia),kf,zJ (show ("jump":Str)≠"label" by trivial),kf,zP ek,kf,z.off Γ fun m m1 m2=>hΓ m (by lia) m2,kf];exact zP ek1
def Ty.rais{k k':Nat}{l:List Row}(x:Ty 1 true k k' l)(a:Int):Ty 0 false k k' (l++[⟨"raise",.non,a⟩]):=by
 refine⟨fun d gs hg=>?_,fun Γ hΓ=>?_⟩
 ·have hl:=hg.len;simp only[km,kG] at hl;obtain⟨Γ1,q1⟩:=x.sure (d:=d) (gs:=gs) ⟨hg.pos,by lia,hg.top⟩;refine⟨Γ1,none,.inr ⟨rfl,rfl⟩,fun Γ he hE=>?_⟩;rw[zp,q1 Γ he hE,kf];exact z1r hg.pos hg.top (by lia) hE
 ·rw[zp,x.off Γ hΓ,kf];exact zJ (show ("raise":Str)≠"label" by trivial)
def Ty.weak{δ:Int}{su:Bool}{k k':Nat}{l:List Row}(x:Ty δ su k k' l):Ty δ false k k' l:=by
 refine⟨fun d gs hg=>?_,x.off⟩;obtain⟨Γl,c',h,q⟩:=x.go d gs hg;refine⟨Γl,c',?_,q⟩;rcases h with h|⟨_,h⟩
 ·exact .inl h
 ·exact .inr ⟨rfl,h⟩
def z6G{Γ:Int->Option Sta}{op:Str}(h:op∈(["drop","tell","raise"]:List Str))(ln:Int){d:Int}{gs:List Gd}(h0:0<=d)(ht:∀g,gs.getLast?=some g->g.2<=d)(hz:gs.length<=1000)(hE:GEnv Γ gs):chk Γ [⟨op,.non,ln⟩] (some (d+1,gs))=some (if op="raise" then none else some (d,gs)):=by
 simp only[kE,kq,or_false] at h;have e:d+1 - 1+0=d:=by lia
 rcases h with rfl|rfl|rfl
 ·rw[(js "drop" vW).chk .non ln (by lia) (fun g z=>by have:=ht g z;lia) hz hE,e,ky vW]
 ·rw[(js "tell" vW).chk .non ln (by lia) (fun g z=>by have:=ht g z;lia) hz hE,e,ky vW]
 ·rw[z1r h0 ht hz hE,kz rfl]
def Ty.tried{k k1 k2:Nat}{l1 l2:List Row}{s1 s2:Bool}(x:Ty 0 s1 (k+2) k1 l1)(y:Ty 0 s2 k1 k2 l2)(h1:k+2<=k1)(h2:k1<=k2){op:Str}(ho:op∈(["drop","tell","raise"]:List Str))(a b c e f g':Int):
  Ty 0 true k k2 ([⟨"try",.int (k:Int),a⟩]++l1++[⟨"endtry",.non,b⟩]++[⟨"jump",.int ((k+1:Nat):Int),c⟩]++[⟨"label",.int (k:Int),e⟩]++[⟨op,.non,f⟩]++l2++[⟨"label",.int ((k+1:Nat):Int),g'⟩]):=by
 have hopl:op≠"label":=by
  simp only[kE,kq,or_false] at ho;rcases ho with rfl|rfl|rfl <;> decide+kernel
 refine⟨fun d gs hg=>?_,fun Γ hΓ=>?_⟩
 ·have hl:=hg.len;simp only[km,kG] at hl;have hlast:(gs++[((k:Int),d)]).getLast?=some ((k:Int),d):=by rw[List.getLast?_append];rfl
  obtain⟨Γ1,c1,hc1,q1⟩:=x.go d (gs++[((k:Int),d)]) ⟨hg.pos,by rw[km,kG];lia,fun g z=>by rw[hlast] at z;cases z;exact Int.le_refl _⟩;obtain⟨Γ2,c2,hc2,q2⟩:=y.go d gs ⟨hg.pos,by lia,hg.top⟩;refine⟨fun m=>if m=(k:Int) then some (d+1,gs) else if m=((k+1:Nat):Int) then some (d,gs) else if m < (k1:Int) then Γ1 m else if op="raise" then none else Γ2 m,some (d+0,gs),.inl rfl,fun Γ he hE=>?_⟩;have ek:Γ (k:Int)=some (d+1,gs):=(he k (kg _)<|by lia).trans (kz rfl);have ek1:Γ ((k+1:Nat):Int)=some (d,gs):=(he (k+1) (by lia)<|by lia).trans ((ky<|by lia).trans<|kz rfl);have e1:Ext Γ Γ1 (k+2) k1:=fun m m1 m2=>(he m (by lia)<|by lia).trans ((ky<|by lia).trans<|(ky<|by lia).trans<|kz<|by lia)
  have e2:∀m:Nat,k1<=m->m < k2->Γ (m:Int)=if op="raise" then none else Γ2 (m:Int):=fun m m1 m2=>(he m (by lia)<|by lia).trans ((ky<|by lia).trans<|(ky<|by lia).trans<|ky<|by lia)
  have hE1:GEnv Γ (gs++[((k:Int),d)]):=fun g z=>by
   rw[hlast] at z;cases z;rw[kI];exact ek
  have t1:∀g,gs.getLast?=some g->g.2<=d+1:=fun g z=>by have:=hg.top g z;lia
  have p1:0<=d+1:=by have:=hg.pos;lia
  have j:(chk Γ [⟨"endtry",.non,b⟩] c1).bind (fun c'=>chk Γ [⟨"jump",.int ((k+1:Nat):Int),c⟩] c')=some none:=by
   rcases hc1 with rfl|⟨_,rfl⟩
   ·rw[vQ,JD hg.pos (Int.le_refl d) (by lia),kf];exact Zp hg.pos hg.top (by lia) ek1
   ·rw[zJ (show ("endtry":Str)≠"label" by trivial),kf];exact zJ (show ("jump":Str)≠"label" by trivial)
  have z:(chk Γ [⟨op,.non,f⟩]<|some (d+1,gs)).bind (fun c'=>chk Γ l2 c')=some (if op="raise" then none else c2):=by
   rw[z6G ho f hg.pos hg.top (by lia) hE,kf];by_cases hr:op="raise"
   ·rw[kz hr,kz hr];exact y.off Γ fun m m1 m2=>(e2 m m1 m2).trans (kz hr)
   ·rw[ky hr,ky hr];exact q2 Γ (fun m m1 m2=>(e2 m m1 m2).trans<|ky hr) hE
  have z2:(if op="raise" then none else c2)=none\/(if op="raise" then none else c2)=some (d,gs):=by
   by_cases hr:op="raise"
   ·rw[kz hr];exact .inl rfl
   ·rw[ky hr];rcases hc2 with rfl|⟨_,rfl⟩
    ·exact .inr (by rw[vQ])
    ·exact .inl rfl
  rw[zp,zp,zp,zp,zp,zp,zp,z5x hg.pos hg.top (by lia),kf,q1 Γ e1 hE1,kf,j,kf,qj p1 t1 (by lia) ek<|.inl rfl,kf,z,kf,vQ];exact qj hg.pos hg.top (by lia) ek1 z2
 ·have ek:Γ (k:Int)=none:=hΓ k (kg _) (by lia);have ek1:Γ ((k+1:Nat):Int)=none:=hΓ (k+1) (by lia) (by lia);rw[zp,zp,zp,zp,zp,zp,zp,zJ (show ("try":Str)≠"label" by trivial),kf,x.off Γ fun m m1 m2=>hΓ m (by lia) (by lia),kf,zJ (show ("endtry":Str)≠"label" by trivial),kf,zJ (show ("jump":Str)≠"label" by trivial),kf,zP ek,kf,zJ hopl,kf,y.off Γ fun m m1 m2=>hΓ m (by lia) m2,kf];exact zP ek1
structure Deep(op:Str)(b:Int):Prop where
 lab:op≠"label"
 et:op≠"endtry"
 deep:inT op jG=true
 takes:tabI jo op=0
 pushes:tabI j8 op=b
 on:inT op jc=false
 jump:inT op jumping=false
 gput:tabI qp op=0
 fault:inT op faulting=false
def z94:Deep "swap" 0:=⟨vW,vW,vW,vW,vW,vW,vW,vW,vW⟩
def z5m:Deep "copy" 1:=⟨vW,vW,vW,vW,vW,vW,vW,vW,vW⟩
def Ty.deep{δ:Int}{k k':Nat}{l:List Row}(x:Ty δ true k k' l){op:Str}{b:Int}(h:Deep op b){n:Int}(hn:n<=δ)(ln:Int):Ty (δ+b) true k k' (l++[⟨op,.int n,ln⟩]):=by
 have ha:qK ⟨op,.int n,ln⟩=n:=by
  unfold qK;rw[h.deep,kz rfl]
 refine⟨fun d gs hg=>?_,fun Γ hΓ=>?_⟩
 ·have hl:=hg.len;simp only[km,kG] at hl;obtain⟨Γ1,q1⟩:=x.sure (d:=d) (gs:=gs) ⟨hg.pos,by lia,hg.top⟩;refine⟨Γ1,some (d+(δ+b),gs),.inl rfl,fun Γ he hE=>?_⟩;rw[zp,q1 Γ he hE,kf,Z6 h.lab (jx (by rw[ha];have:=hg.pos;lia) (fun g e=>by rw[ha];have:=hg.top g e;lia) h.et<|by lia) ?_]
  ·unfold QE qG;rw[h.on,ky ke,h.takes,h.pushes,h.gput,gs0];congr 3
   show d+δ - 0+b=d+(δ+b);lia
  ·intro t ht;unfold tgts at ht;rw[h.jump,h.fault] at ht;cases ht
 ·rw[zp,x.off Γ hΓ,kf];exact zJ h.lab
def Ty.whole{k k1 k2:Nat}{l1 l2:List Row}{su:Bool}(x:Ty 0 su k k1 l1)(y:Ty 1 true k1 k2 l2)(h1:k<=k1)(h2:k1<=k2)(a:Int)(hz:l1.length+l2.length<=998):
  ∃Γl:Int->Option Sta,∀Γ,Ext Γ Γl k k2->chk Γ (l1++l2++[⟨"return",.non,a⟩]) (some (0,[]))=some none:=by
 have xy:=x.app y h1 h2 (Int.le_refl 0);obtain⟨Γl,c',hc,q⟩:=xy.go 0 [] ⟨Int.le_refl _,by simp only[km,List.length_nil];lia,nofun⟩;refine⟨Γl,fun Γ he=>?_⟩;rw[zp,q Γ he nofun,kf];rcases hc with rfl|⟨_,rfl⟩
 ·rw[show (0:Int)+(0+1)=0+1 by decide];exact z3M (Int.le_refl 0) nofun (by decide)
 ·exact zJ (show ("return":Str)≠"label" by trivial)
section
noncomputable def zbj:Stmt:=(zR<|top 55).getD 5 (.Pass ⟨0,0,0,0⟩)
def zbp(K:ku)(H:Hp)(l:Aa)(rs:List Row)(fin:Fnd):TS:=fun D σ H3=>∃(d fl wd wl:Aa)(f0:Fnd),σ=[some<|.ref l,some<|.ref d,some<|.ref fl,some<|.ref wd,some<|.ref wl,none,none,none,none,none]/\bfs rs 300 f0 [0]=some fin/\
 Srch K H H3 d fl wd wl rs f0 [0] (301 - 300) (3 * (301 - 300))/\∀v1 v3 v4 v5 v6 v7 v8 v9 fvs H',Same H H'->H fl=none->H' fl=some (.lst fvs)->qP K H' fvs fin->D.nx [some<|.ref l,v1,some<|.ref fl,v3,v4,v5,v6,v7,v8,v9] H'
def WhW(K:ku)(H:Hp)(l d fl wd wl:Aa)(rs:List Row)(foE:Fnd)(waE:List Nat)(n:Nat)(σ':L2.St)(H':Hp):Prop:=∃v5 v6 v7 v8 v9,σ'=[some<|.ref l,some<|.ref d,some<|.ref fl,some<|.ref wd,some<|.ref wl,v5,v6,v7,v8,v9]/\Srch K H H' d fl wd wl rs foE waE (301 - n) (3 * (301 - n))
def z7J{f:Aa}{cdv:Ab}{A:Around}{vZ:List Env}{s:Ac}{H:Hp}{E:XK}{l:Aa}{as:List Aa}{rs:List Row}{fin:Fnd}(hr:Room 7 (A.deeper<|envOfC "searched" (zc<|top 55) s.heap.objs.size f cdv))(hS:SqL K H l (as.map V.ref))(hR:zI H as rs)(hc:Code rs)(FS:FN P w K mg base 5 "state_words" Vf (spSw K))(FN':FN P w K mg base 4 "next_states" Vf (z0L K)):
  PS (cxOf CX0 P w K mg base N54 "searched" (zc<|top 55) f cdv A vZ s H E).nox zbj (zbp K H l rs fin):=by
 have hr5:=hr.mono (vW:5<=7);refine PS.imp (ZQ vo (z07 (pv 4) fun _=>rfl)
   (z6 (zM 5 sc55.nd<|z1W PySem.F.plainAttrs_list PySem.F.slot_list_pop PySem.F.type_list_pop z6r (pv 4)<|pa1 zb)
   (z6 (zM 6 sc55.nd<|zk FS hr5 rfl<|zf (pv 0)<|pa3 (pv 1) (pv 5)<|zG zH (pv 2)<|pv 5)
   (z6 (zV (z07 (pv 6) fun _=>rfl) jQ zC)
   (z8<|zbL hr hS hR hc FN'))))) ?_
 rintro D σ H3 ⟨d,fl,wd,wl,f0,rfl,hfin,start,q⟩;refine⟨fun m σ H2=>∃fo wa v5 v6 v7 v8 v9,σ=[some<|.ref l,some<|.ref d,some<|.ref fl,some<|.ref wd,some<|.ref wl,v5,v6,v7,v8,v9]/\m<=300/\bfs rs m fo wa=some fin/\Srch K H H2 d fl wd wl rs fo wa (301 - m) (3 * (301 - m)),⟨300,f0,[0],none,none,none,none,none,rfl,kg _,hfin,start⟩,?_⟩;clear start;rintro m σ H2 ⟨fo,wa,v5,v6,v7,v8,v9,rfl,hm,hb,S⟩;refine⟨!wa.isEmpty,.inl ⟨_,SqL.of S.wts,by rw[List.isEmpty_map]⟩,?_⟩;cases wa with
|nil=>
  have hb:some fo=some fin:=by unfold bfs at hb;exact hb
  cases hb;obtain⟨fvs,hfl2,hF⟩:=S.fnd;exact iteF (q _ _ _ _ _ _ _ _ fvs H2 S.same S.nf hfl2 hF)
|cons p wa=>
  cases m with
 |zero=>unfold bfs at hb;cases hb
 |succ n=>
   unfold bfs at hb;cases hrp:rs[p]? with
  |none=>rw[hrp] at hb;cases hb
  |some r=>
    cases hfp:fo[p]? with
   |none=>rw[hrp,hfp] at hb;cases hb
   |some o=>
     cases o with
    |none=>rw[hrp,hfp] at hb;cases hb
    |some st=>
      rw[hrp,hfp] at hb;dsimp only at hb;by_cases hw:(QR rs p r st.1 st.2.getLast?).isEmpty=true/\st.2.length<=1000
      case neg=>rw[ky hw] at hb;cases hb
      rw[kz hw] at hb;obtain⟨hw,hz⟩:=hw;cases hrel:QD (Qk rs p r st) fo wa with
     |none=>rw[hrel] at hb;cases hb
     |some fw=>
       obtain⟨foE,waE⟩:=fw;rw[hrel] at hb;dsimp only at hb;refine iteT ⟨WhW K H l d fl wd wl rs foE waE n,fun σ' H' zz=>by obtain⟨v5,v6,v7,v8,v9,e,S'⟩:=zz;exact⟨n,yb _,foE,waE,v5,v6,v7,v8,v9,e,by lia,hb,S'⟩,?_⟩;obtain⟨k1,k2,k3⟩:=pop0 (xs:=(p::wa).map fun p=>V.int (p:Nat)) rfl;refine⟨.inl ⟨rfl,_,SqL.of S.wts⟩,wl,_,0,0,_,rfl,rfl,S.wts,by decide,by decide,k1,k2,?_⟩;rw[k3];have S1:=S.pop;generalize upd H2 wl (.lst (wa.map fun p=>V.int (p:Nat)))=H3 at S1;obtain⟨fvs,hfl2,hF⟩:=S1.fnd;obtain⟨x,hx,hx2⟩:=hF.get hfp;obtain⟨sa,rfl,hsa⟩:=hx2;refine⟨fl,_,_,_,rfl,rfl,SqL.of hfl2,zm hx,l,d,p,sa,st,rs,r,rfl,S1.code hS hR hc,hrp,hsa,fun wf H4 s4 hn4 hwf=>?_⟩;refine⟨false,.inl ⟨_,SqL.of hwf,by rw[List.isEmpty_map,hw];rfl⟩,iteF ?_⟩;exact⟨d,fl,wd,wl,p,r,st,n,_,_,_,_,fo,wa,foE,waE,rfl,by lia,hrp,hfp,hz,hrel,(S1.same' s4).more (by lia) (by lia),fun σ' H' ⟨v5,v6,v7,v8,v9,e⟩ S'=>⟨v5,v6,v7,v8,v9,e,S'⟩⟩
def z23(D:zn K mg "searched" (top 55))(G:Glo mg)(T:z7h w K mg)(FL:Fc P w K mg base)(FS:FN P w K mg base 5 "state_words" Vf (spSw K))(FN':FN P w K mg base 4 "next_states" Vf (z0L K)):
  FN P w K mg base 8 "searched" ["code"] (Qf K):=by
 refine FN.o D sc55 ?_;rintro f cdv A _ s H _ _ _ hr ⟨l,as,rs,fin,rfl,hS,hR,hc,hfin,q⟩;have hu:=z0u hr;have hu3:(A.deeper<|envOfC "searched" (zc<|top 55) s.heap.objs.size f cdv).units+3 < cLine:=by have:=hr.un;lia
 obtain⟨fa,fg,mfa,tfa,tfg⟩:=T.first;have hr5:=hr.mono (vW:5<=7);have hr4:=hr.mono (vW:4<=7);refine'⟨_,z6 _ _,_⟩
 rotate_left 2
 ·exact zM 1 sc55.nd (zk FL hr rfl<|pa1<|pv 0)
 ·refine' z6 _ _
  rotate_left 2
  ·exact zM 2 sc55.nd (zE z4w (zO<|pa1 qR)<|zq zr rfl G.len zK<|pa1<|pv 0)
  refine' z6 _ _
  rotate_left 2
  ·exact Za (Z1 rfl mfa (v:=.ref fa) rfl) (z0W (pv 2) zb ZO)
  refine' z6 _ _
  rotate_left 2
  ·refine' jR (i:=3) _ _ _ _
   rotate_left
   ·exact sc55.nd
   ·rfl
   ·exact Or.inl rfl
   ·refine' z4s _ _ _ _ _
    rotate_left
    ·refine' ZR _ _ _
     rotate_left 3
     ·exact zb
     ·refine' zY _
      rotate_left
      ·refine' zf _ _
       rotate_left 2
       ·exact zb
       ·exact qC
     ·exact z4k
    ·rfl
    ·rfl
    ·nofun
    ·decide
  refine' z6 _ _
  rotate_left 2
  ·refine' jR (i:=4) _ _ _ _
   rotate_left
   ·exact sc55.nd
   ·rfl
   ·exact Or.inl rfl
   ·refine' zO _
    rotate_left
    ·refine' zf _ _
     rotate_left 2
     ·exact zb
     ·exact qC
  exact z6 (z7J (fin:=fin) hr hS hR hc FS FN') (z8<|zl<|zY<|pa2 (pv 2) qR)
 have hlen:=hc.hi;have hlo:=hc.lo;refine⟨l,as,rs,rfl,hS,hR,hc.ok,by lia,fun d kvs0 H1 hd0 s1 hd1 hL=>?_⟩;have hll:as.length=rs.length:=hR.len;refine⟨vX,fun p0 hp0=>?_⟩;have t0:=ze hp0 (.lst [V.non]);refine⟨l,_,rfl,.inl<|t0.seq<|s1.seq hS,p0,_,[V.non],rfl,rfl,z7,?_,?_,?_,fun fl hfl=>?_⟩
 ·rw[kl];lia
 ·rw[kl];lia
 ·rw[kl];show 1 * ((as.length:Nat):Int).toNat<=sizeLine;rw[sizeLine_eq,ya];lia
 have efl:(List.replicate (((as.map V.ref).length:Nat):Int).toNat [V.non]).flatten=List.replicate rs.length V.non:=by
  rw[ya,kl,hll];generalize rs.length=n;induction n with
 |zero=>rfl
 |succ n ih=>rw[vG,vV,ih];rfl
 rw[efl];have sA:Same H (upd H1 p0<|.lst [V.non]):=s1.trans t0;have hfl0:H fl=none:=sA.free hfl;have nfd:d≠fl:=zd (t0 _ _ hd1) hfl;refine⟨fl,_,0,0,rfl,rfl,z7,?_,?_⟩
 ·unfold ixN;rw[kz (by decide),kz<|by rw[vk];lia];rfl
 rw[z7O];have f0:qP K (upd (upd H1 p0<|.lst [V.non]) fl<|.lst<|(List.replicate rs.length V.non).set 0<|.ref fa) ((List.replicate rs.length V.non).set 0<|.ref fa) ((List.replicate rs.length none).set 0<|some (0,[])):=
  qP.set (st:=(0,[])) ⟨fg,tfa.sq _,[],tfg.sq _,.nil⟩ 0 (JC _ _ _)
 generalize hfv:(List.replicate rs.length V.non).set 0 (V.ref fa)=fvs0 at f0;intro wd hwd;have sB:Same H (upd (upd H1 p0<|.lst [V.non]) fl<|.lst fvs0):=fun b o e=>by rw[zg<|zd e hfl0];exact sA _ _ e
 generalize hHB:upd (upd H1 p0<|.lst [V.non]) fl (.lst fvs0)=HB at *;have hflB:HB fl=some (.lst fvs0):=by rw[<-hHB];exact z7
 have hdB:HB d=some (.dK kvs0):=by rw[<-hHB,zg nfd];exact t0 _ _ hd1
 have hwd0:H wd=none:=sB.free hwd;have s3:=ze hwd (.dK []);refine⟨vX,fun p1 hp1=>?_⟩;have s4:=ze hp1 (.tup [V.int 0]);refine⟨s4 _ _ z7,[(Sum.inl 0,.ref p1)],rfl,(by show 1<=15;decide),?_⟩;have em:Qx [] [((Sum.inl 0:Key),V.ref p1)]=[(Sum.inl 0,V.ref p1)]:=rfl;rw[em];refine⟨vX,fun wl hwl=>?_⟩;have npw:p1≠wd:=(zd (H:=upd HB wd (.dK [])) z7 hp1).symm;have hwl':wl≠wd:=fun z=>by rw[z,z7] at hwl;cases hwl
 have hwl2:(upd (upd HB wd<|.dK []) p1<|.tup [V.int 0]) wl=none:=by rw[zg hwl'] at hwl;exact hwl
 have sC:Same HB (upd (upd HB wd<|.dK []) p1<|.tup [V.int 0]):=s3.trans s4;have hwlB:HB wl=none:=sC.free hwl2;have sD:Same HB (upd (upd (upd (upd HB wd<|.dK []) p1<|.tup [V.int 0]) wd<|.dK [(Sum.inl 0,V.ref p1)]) wl<|.lst [V.int 0]):=fun b o e=>by
  rw[zg<|zd e hwlB,zg<|zd e hwd];exact sC _ _ e
 generalize hHD:upd (upd (upd (upd HB wd<|.dK []) p1<|.tup [V.int 0]) wd<|.dK [(Sum.inl 0,V.ref p1)]) wl (.lst [V.int 0])=HD at *;have hp1D:HD p1=some (.tup [V.int 0]):=by
  rw[<-hHD,zg (fun z=>by rw[<-z,z7] at hwl2;cases hwl2),zg npw];exact z7
 have hwdD:HD wd=some (.dK [(Sum.inl 0,V.ref p1)]):=by rw[<-hHD,zg hwl'.symm];exact z7
 have hwlD:HD wl=some (.lst [V.int 0]):=by rw[<-hHD];exact z7
 have start:Srch K H HD d fl wd wl rs ((List.replicate rs.length none).set 0<|some (0,[])) [0] (301 - 300) (3 * (301 - 300)):=by
  refine⟨sB.trans sD,⟨kvs0,sD _ _ hdB,hL⟩,hfl0,hwd0,sB.free hwlB,⟨fvs0,sD _ _ hflB,f0.keep<|jf.of sD⟩,⟨_,hwdD,fun p st e=>?_,(by show 1<=3;decide)⟩,hwlD,(by show 1<=3;decide),by simp,zd hdB hwd,zd hflB hwlB⟩;have hp:p=0:=by
   rw[vA] at e;by_cases z:0=p
   ·exact z.symm
   ·rw[ky z,vt] at e;split at e <;> cases e
  subst hp;exact⟨p1,_,rfl,hp1D,nofun,(by show 1<=1;decide)⟩
 refine⟨d,fl,wd,wl,_,rfl,hfin,start,fun v1 v3 v4 v5 v6 v7 v8 v9 fvs H' s' _ h1 h2=>?_⟩;refine⟨vX,fun t ht=>?_⟩;have st:=ze ht (.tup [V.ref fl,.non]);exact q t fl fvs _ (s'.trans st) (s'.free ht) hfl0 z7 (st _ _ h1) (h2.keep<|jf.of st)
end
section
inductive JR(K:ku)(vs:List V)(H:Hp)(Q:VK)(E:XK):Prop
|mk (l:_) (as:_) (rs:_) (fin:_):vs=[.ref l]->H l=some (.lst<|as.map V.ref)->zI H as rs->Code rs->Zz rs=some fin->(∀fl fvs H',Same H H'->H fl=none->H' fl=some (.lst fvs)->qP K H' fvs fin->Q (.ref fl) H')->JR K vs H Q E
def sc56:zj ["code","found","reason"] ["code"] (zc<|top 56):=fsM
def z59(D:zn K mg "states" (top 56))(FC:FN P w K mg base 9 "check_code" Vc z1K)(FS:FN P w K mg base 8 "searched" ["code"] (Qf K)):FN P w K mg base 10 "states" ["code"] (JR K):=by
 refine FN.o D sc56 ?_;rintro _ _ _ _ _ _ _ _ _ hr ⟨l,as,rs,fin,rfl,hl,hR,hc,hfin,q⟩;refine⟨_,z6 (zi<|zk FC hr rfl<|pa1<|pv 0)
  (z6 (Za (zk FS (hr.mono<|by decide) rfl<|pa1<|pv 0)<|Z7 rfl<|zu (zL 1 sc56.nd)<|zu (zL 2 sc56.nd) qt)
  (z6 (zV (zo z0d (pv 2) qR<|zy _) jQ zC)<|z8<|zl<|pv 1)),?_⟩
 symm
 refine⟨l,as,rs,rfl,hl,hR,hc,fun H1 s1=>?_⟩;refine⟨l,as,rs,fin,rfl,SqL.of<|s1 _ _ hl,hR.same s1,hc,hfin,fun t fl fvs H2 s2 ht hfl h1 h2 h3=>?_⟩;refine⟨t,_,rfl,SqT.of h1,rfl,_,_,rfl,_,_,rfl,rfl,?_⟩;exact⟨rfl,_,rfl,iteF<|q fl fvs H2 (s1.trans s2) (s1.free hfl) h2 h3⟩
end
def Zk(H H':Hp)(t:Aa):Prop:=∀b o,H b=some o->b≠t->H' b=some o
noncomputable def okV:V->Bool
|.str z=> !decide (z∈(["True","False","None"]:List Str))
|_=>true
section
variable {arg:V}{ln:Int}
def z5i{op:Str}(hok:jX ⟨op,arg,ln⟩){s:Str}(hs:zx op=some s):qk s arg=true:=by
 have h:rowV op arg (.int ln)=true:=hok;unfold rowV Zh at h;rw[hs] at h;simp only[yd] at h;exact h.1.2
def z7B{α:Type}{x:Str}{v:α}:∀{t:List (Str × α)},t.lookup x=some v->x∈t.map (·.1)
|(k,u)::t,h=>by
  rw[List.lookup_cons] at h;by_cases e:(x == k)=true
  ·rw[show x=k by simpa using e];exact kQ ..
  ·have e:(x == k)=false:=by simpa using e
   rw[e] at h;exact kR _ (z7B h)
abbrev Qb:List Str:=["push","load","quick","store","clear","copy","swap","jump","iftrue","iffalse","ortrue","orfalse","try","label","add","sub","mul","div","rest","less","same","neg","not","drop","tell","return","raise","endtry"]
def ZU{op:Str}{s:Str}(h:zx op=some s):op∈Qb:=z7B h
end
end My
namespace L2
section
variable {X:Cx}
def z2d:Zs X (.type "int") (fun xs H Q=>∃b:Bool,xs=[.bl b]/\Q (.int (if b then 1 else 0)) H):=by
 intro vY s σ H xs us Q I r h;obtain⟨b,rfl,q⟩:=h;obtain⟨u,rfl,ru⟩:=Js r;cases ru;exact PySem.call_int_bool ⟨.int _,H,I.tok _,⟨_,rfl⟩,q⟩
end
def Inv.turnedL{X:Cx}{vY:List (Aa × Obj)}{σ:St}{H:Hp}{s:Ac}{h':Heap}{t':Nat}{es:List Aa}{xs:List V}(I:Inv X vY σ H s)(k:∀b o,b∉es->s.heap.get? b=some o->h'.get? b=some o)(fe:∀b∈es,FpOk X vY H b)(new:qq X.prog X.w (upd H s.heap.objs.size<|.tup xs) h' s.heap.objs.size (.tup xs)):
  Inv X vY σ (upd H s.heap.objs.size<|.tup xs) {s with heap:=h',toks:=t'}:=by
 have hn:=I.fresh;have nit:∀b u,H b=some u->b∉es:=fun b u q z=>by have:=(fe b z).1;rw[this] at q;cases q
 refine I.step (g':=s.gens) (d':=s.drawn) (ch:=es) (fun b hb=>?_) (fun b o _ _ hc q _=>k b o hc q) (fun b o _ _ hc q _=>⟨o.slots,k b o hc q⟩) (fun b o _ q n=>?_)
  (fun b o hc q=>⟨o,k b o hc q⟩) (fun b xs q=>by rw[zg<|zd q hn];exact q) (fun b o u q=>by rw[zg<|zd q hn];exact q) (fun b ps q=>⟨#[],by rw[zg<|zd q hn,q];simp⟩) (fun m hm'=>?_) (fun b u q=>?_) I.bare
 ·have f:=fe b hb;exact⟨f.2.2.2.1,f.2.1,f.2.2.2.2.1,f.2.2.2.2.2⟩
 ·rw[zg<|vn<|vf q];exact n
 ·obtain⟨o,es',ep,ho,r⟩:=hm';exact⟨o,es',ep,k _ o (fun z=>(fe _ z).2.1 rfl) ho,r⟩
 ·by_cases hb:b=s.heap.objs.size
  ·subst hb;rw[z7] at q;cases q;exact new
  ·rw[zg hb] at q;refine (I.hok b u q).stay (fun c v hc z=>?_) (fun c z=>by rw[zg<|zd z hn];exact z) fun c xs z=>by rw[zg<|zd z hn];exact z
   rcases hc with y|y
   ·subst y;exact k c v (nit c u q) z
   ·exact k c v (nit c _ y) z
def Inv.turnedE{X:Cx}{vY:List (Aa × Obj)}{σ:St}{H:Hp}{s:Ac}{h':Heap}{t':Nat}{es:List Aa}(I:Inv X vY σ H s)(k:∀b o,b∉es->s.heap.get? b=some o->h'.get? b=some o)(fe:∀b∈es,FpOk X vY H b):Inv X vY σ H {s with heap:=h',toks:=t'}:=by
 have nit:∀b u,H b=some u->b∉es:=fun b u q z=>by have:=(fe b z).1;rw[this] at q;cases q
 refine I.step (g':=s.gens) (d':=s.drawn) (ch:=es) (fun b hb=>?_) (fun b o _ _ hc q _=>k b o hc q) (fun b o _ _ hc q _=>⟨o.slots,k b o hc q⟩) (fun _ _ _ _ n=>n)
  (fun b o hc q=>⟨o,k b o hc q⟩) (fun _ _ e=>e) (fun _ _ _ e=>e) (fun b ps e=>⟨#[],by rw[e];simp⟩) (fun m hm'=>?_) (fun b u q=>?_) I.bare
 ·have f:=fe b hb;exact⟨f.2.2.2.1,f.2.1,f.2.2.2.2.1,f.2.2.2.2.2⟩
 ·obtain⟨o,es',ep,ho,r⟩:=hm';exact⟨o,es',ep,k _ o (fun z=>(fe _ z).2.1 rfl) ho,r⟩
 ·refine (I.hok b u q).stay (fun c v hc z=>?_) (fun _ z=>z) fun _ _ z=>z
  rcases hc with y|y
  ·subst y;exact k c v (nit c u q) z
  ·exact k c v (nit c _ y) z
noncomputable def Itz(K:ku)(a b:Aa):It:=
 ⟨fun i H=>∃xs ys x y,SqL K H a xs/\SqL K H b ys/\xs[i]?=some x/\ys[i]?=some y,fun i H x H'=>∃p y z,x=.ref p/\H p=none/\H'=upd H p (.tup [y,z])/\(∀xs,SqL K H a xs->xs[i]?=some y)/\∀ys,SqL K H b ys->ys[i]?=some z,
  fun i H=>∃xs ys,SqL K H a xs/\SqL K H b ys/\(xs.length<=i\/ys.length<=i)⟩
def z5Q{P:Program}{w:World}{K:ku}{elts:List Expr}{x1}{pos:Pos}(a b z TI TO i1 i2:Aa)(D:ZipApart z TI TO i1 i2 a b):
  Turn P w K (.Tuple elts x1 pos) (Itz K a b) [z,TI,TO,i1,i2] z (fun i h=>IsZip h z TI TO .none/\IsPair h TI (.ref i1) (.ref i2)/\(∃u v,IsPair h TO u v)/\h.IsListIter i1 a i/\h.IsListIter i2 b i) where
 mem:=by simp
 obj:=fun i h st c hc=>by
  obtain⟨q1,q2,⟨u,v,q3⟩,⟨o4,q4,c4,d4⟩,⟨o5,q5,c5,d5⟩⟩:=st;simp only[kE,kq,or_false] at hc;rcases hc with rfl|rfl|rfl|rfl|rfl
  ·exact⟨_,q1,fun v y=>by cases y⟩
  ·exact⟨_,q2,fun v y=>by cases y⟩
  ·exact⟨_,q3,fun v y=>by cases y⟩
  ·exact⟨_,q4,fun v y=>by rw[d4] at y;cases y⟩
  ·exact⟨_,q5,fun v y=>by rw[d5] at y;cases y⟩
 keep:=fun i h h' st k=>by
  obtain⟨q1,q2,⟨u,v,q3⟩,q4,q5⟩:=st;exact⟨k z (by simp) _ q1,k TI (by simp) _ q2,⟨u,v,k TO (by simp) _ q3⟩,q4.at fun o q=>k i1 (by simp) o q,q5.at fun o q=>k i2 (by simp) o q⟩
 item:=by
  intro X hP hw hK hc i vY s σ H E I hf st hg;subst hP hw hK;obtain⟨xs,ys,x,y,hq1,hq2,hx,hy⟩:=hg;obtain⟨its1,rv1,p1,hz1⟩:=I.list hq1;obtain⟨u1,hu1,ru1⟩:=rv1.get hx;obtain⟨its2,rv2,p2,hz2⟩:=I.list hq2;obtain⟨u2,hu2,ru2⟩:=rv2.get hy;obtain⟨q1,q2,⟨a',b',q3⟩,q4,q5⟩:=st;refine wpAny_pyNext_zip_item D q1 q2 q3 q4 q5 p1.isList p2.isList (x:=u1) (y:=u2) (by simpa using hu1) (by simpa using hu2) fun h' g1 g2 g3 g4 g5 g6 g7=>?_
  refine⟨_,rfl,?_⟩;have new:qq X.prog X.w (upd H s.heap.objs.size<|.tup [x,y]) h' s.heap.objs.size (.tup [x,y]):=⟨vX,[u1,u2],.cons ru1<|.cons ru2 .nil,_,g5,rfl,_,rfl⟩
  have hk:∀b o,b∉[z,TI,TO,i1,i2]->s.heap.get? b=some o->h'.get? b=some o:=fun b o hb e=>g7 b o (fun y=>hb<|by simp[y]) (fun y=>hb<|by simp[y]) (fun y=>hb<|by simp[y]) (fun y=>hb<|by simp[y]) e
  have I1:Inv X vY σ (upd H s.heap.objs.size<|.tup [x,y]) {s with heap:=h',toks:=s.toks}:=I.turnedL hk hf new;have q2':IsPair h' TI (.ref i1) (.ref i2):=g7 _ _ D.TIz D.TITO D.TIi1 D.TIi2 q2;refine wpAny_letOwnedTupleGo_zip (s:={s with heap:=h'}) g1 fun h2 he2 hs2=>?_
  have lt:∀c∈[z,TI,TO,i1,i2],c≠s.heap.objs.size:=fun c hc e=>by
   have:∃o,s.heap.get? c=some o:=by
    simp only[kE,kq,or_false] at hc;rcases hc with rfl|rfl|rfl|rfl|rfl
    ·exact⟨_,q1⟩
    ·exact⟨_,q2⟩
    ·exact⟨_,q3⟩
    ·exact⟨_,q4.choose_spec.1⟩
    ·exact⟨_,q5.choose_spec.1⟩
   obtain⟨o,ho⟩:=this;have:=vf ho
   rw[e] at this;exact vD _ this
  have fz:=hf z (by simp);refine⟨.ref s.heap.objs.size,_,I1.turned (t':=s.toks) (it:=z) (fun b o hb q=>(hs2.2 b hb).trans q) (by rw[zg<|lt z<|by simp];exact fz.1) fz.2.1 fz.2.2.2.1 fz.2.2.2.2.1 fz.2.2.2.2.2,rfl,
   ⟨_,x,y,rfl,I.fresh,rfl,fun zs h=>by rw[I.list_inj h hq1];exact hx,fun zs h=>by rw[I.list_inj h hq2];exact hy⟩,⟨he2,(hs2.2 TI D.TIz).trans q2',⟨_,_,(hs2.2 TO D.TOz).trans g2⟩,g3.at fun o q=>(hs2.2 i1 D.i1z).trans q,g4.at fun o q=>(hs2.2 i2 D.i2z).trans q⟩,fun b hb=>?_⟩
  rw[zg<|lt b hb];exact (hf b hb).1
 done:=by
  intro X hP hw hK hc i vY s σ H E I hf st hg;subst hP hw hK;obtain⟨xs,ys,hq1,hq2,hend⟩:=hg;obtain⟨its1,rv1,p1,hz1⟩:=I.list hq1;obtain⟨its2,rv2,p2,hz2⟩:=I.list hq2;obtain⟨q1,q2,⟨a',b',q3⟩,q4,q5⟩:=st;have l1:=rv1.length;have l2:=rv2.length;exact wpAny_pyNext_zip_end (I.ok.hd hc) D q1 q2 q3 q4 q5 p1.isList p2.isList (by simp;lia) fun h' hk=>⟨rfl,I.turnedE (t':=s.toks) (fun b o hb e=>hk b o (fun y=>hb<|by simp[y]) (fun y=>hb<|by simp[y]) (fun y=>hb<|by simp[y]) (fun y=>hb<|by simp[y]) e) hf⟩
 self:=fun _ _ _ _ _ st h=>wpAny_pyIter_zip st.1 h
def z3O{n l1 l2:Nat}(h1:l1 < n)(h2:l2 < n):ZipApart (n+4) (n+2) (n+3) n (n+1) l1 l2:=by
 constructor
 all_goals (show ¬((_:Nat)=_);lia)
def z7c:bootBuiltins "zip"=some (.type "zip"):=vW
section
variable {X:Cx}
def iZip(K:ku)(ta:TA):TI:=fun σ H R=>ta σ H fun vs H1=>∃a b,vs=[.ref a,.ref b]/\(∃xs,SqL K H1 a xs)/\(∃ys,SqL K H1 b ys)/\R (Itz K a b) H1
def z7v{a b:Expr}{ta:TA}{p pos:Pos}{elts:List Expr}{x1}{tp:Pos}(hg:Gl X "zip")(hm:X.mg "zip"=none)(ha:PA X [a,b] ta)(hs:autoParam (starEach [a,b] X.env=[(false,eval a X.env),(false,eval b X.env)]) aR._auto_1)(hs2:autoParam (starEach [b] X.env=[(false,eval b X.env)]) aR._auto_1):PI X (.Tuple elts x1 tp) (.Call (.Name "zip" p) [a,b] [] pos) (iZip X.K ta):=by
 intro vY s σ H R I h;refine Call_ (Je I hg hm z7c<|vK (thn (ha pos vY s σ H _ I h) fun us s1 ⟨vs,H1,I1,r1,q1⟩=>?_) (by rw[hs,hs2])<|by rw[hs2];rfl);obtain⟨l1,l2,e,⟨xs,hq1⟩,⟨ys,hq2⟩,q⟩:=q1;subst e;obtain⟨u1,u2,rfl,ru1,ru2⟩:=Vals.two r1;cases ru1;cases ru2;obtain⟨its1,rv1,p1,hz1⟩:=I1.list hq1;obtain⟨its2,rv2,p2,hz2⟩:=I1.list hq2;have lt1:l1 < s1.heap.objs.size:=by obtain⟨o,ho,_⟩:=p1.isList;exact vf ho
 have lt2:l2 < s1.heap.objs.size:=by obtain⟨o,ho,_⟩:=p2.isList;exact vf ho
 refine call_zip_2 p1.isList p2.isList fun h' g1 g2 g3 g4 g5 g6 hk=>?_
 refine wpAny_pyIter_zip (s:={s1 with heap:=h'}) g1 ?_;have I2:Inv X vY σ H1 {s1 with heap:=h'}:=I1.kept (t':=s1.toks) hk;have D:ZipApart (s1.heap.objs.size+4) (s1.heap.objs.size+2) (s1.heap.objs.size+3) s1.heap.objs.size (s1.heap.objs.size+1) l1 l2:=z3O lt1 lt2;refine⟨s1.heap.objs.size+4,[s1.heap.objs.size+4,s1.heap.objs.size+2,s1.heap.objs.size+3,s1.heap.objs.size,s1.heap.objs.size+1],_,_,H1,rfl,I2,z5Q l1 l2 _ _ _ _ _ D,⟨g1,g2,⟨_,_,g3⟩,g4,g5⟩,fun b hb=>?_,q⟩;have hb:s1.heap.objs.size<=b:=by
  simp only[kE,kq,or_false] at hb;rcases hb with rfl|rfl|rfl|rfl|rfl
  ·exact vL _ _
  ·exact vL _ _
  ·exact vL _ _
  ·exact kg _
  ·exact vL _ _
 exact I1.fpOk hb (I1.hok.fresh hb)
end
def z1n{prog:Program}{w:World}{A:Around}{R:Result->Ac->Prop}{s:Ac}{elt t1 i1 t2 i2:Expr}{scope:Scope}{pos:Pos}{it acc:Ab}{env:Env}(h0:codeAny (model prog w) A (.compLoop (.ListComp elt [⟨t1,i1,[],0⟩,⟨t2,i2,[],0⟩] scope pos) 1 it acc env) R s)(h:wpAny (model prog w) A (pyIter it) (fun it' s'=>codeAny (model prog w) A (.compLoop (.ListComp elt [⟨t1,i1,[],0⟩,⟨t2,i2,[],0⟩] scope pos) 1 it' acc env) R s') (notedBy (model prog w) A env fun x s'=>R (.error x) s') s):
  codeAny (model prog w) A (.compStart (.ListComp elt [⟨t1,i1,[],0⟩,⟨t2,i2,[],0⟩] scope pos) 1 it acc env) R s:=by
 refine codeAny_of_tree (id<|wpAny_notedAt ?_);show wpAny _ _ (compStart (.ListComp elt [⟨t1,i1,[],0⟩,⟨t2,i2,[],0⟩] scope pos) 1 it acc env) _ _ s;unfold compStart;show wpAny _ _ (do
   let st <-ask
   if st.params.followText "comprehension-iter-twice"=true then again (.compLoop (.ListComp elt [⟨t1,i1,[],0⟩,⟨t2,i2,[],0⟩] scope pos) 1 it acc env)
   else do
    rule "comprehension.iter-twice"
    standAt i2.pos
    let it' <-pyIter it
    again (.compLoop (.ListComp elt [⟨t1,i1,[],0⟩,⟨t2,i2,[],0⟩] scope pos) 1 it' acc env)) _ _ s
 refine va (wpAny_askSetting<|wpAny_ite ?_);split
 ·exact ve ⟨rfl,h0⟩
 ·exact va (wpAny_rule<|va<|wpAny_standAt<|va (vM h (fun it' s' h'=>ve ⟨rfl,h'⟩) fun _ _ e=>e))
def z0A(elt t1 i1 t2 i2:Expr)(scope:Scope)(pos:Pos)(it acc:Ab)(env:Env):
  compTurn (.ListComp elt [⟨t1,i1,[],0⟩,⟨t2,i2,[],0⟩] scope pos) 0 it acc env=(do
   standAt i1.pos
   let r <-pyNext it
   match r with
  |none=>pure (.done .next)
  |some v=>do
    letOwnedTupleGo t1 it v
    assign t1 env v
    let ok <-forIn ([]:List Expr) true fun c r=>if r=true then do let ok <-isTrue c env (eval c env);pure (ForInStep.yield ok) else pure (ForInStep.yield r)
    if ok=true then do
     let x <-eval i2 env
     standAt i2.pos
     let x <-foldedSetIterable i2 env x
     let it2 <-holding [x] (pyIter x)
     let _ <-runOwn (.compStart (.ListComp elt [⟨t1,i1,[],0⟩,⟨t2,i2,[],0⟩] scope pos) 1 it2 acc env) env
     again (.compLoop (.ListComp elt [⟨t1,i1,[],0⟩,⟨t2,i2,[],0⟩] scope pos) 0 it acc env)
    else again (.compLoop (.ListComp elt [⟨t1,i1,[],0⟩,⟨t2,i2,[],0⟩] scope pos) 0 it acc env)):=rfl
def z0z(elt t1 i1 t2 i2:Expr)(scope:Scope)(pos:Pos)(it acc:Ab)(env:Env):
  compTurn (.ListComp elt [⟨t1,i1,[],0⟩,⟨t2,i2,[],0⟩] scope pos) 1 it acc env=(do
   standAt i2.pos
   let r <-pyNext it
   match r with
  |none=>pure (.done .next)
  |some v=>do
    letOwnedTupleGo t2 it v
    assign t2 env v
    let ok <-forIn ([]:List Expr) true fun c r=>if r=true then do let ok <-isTrue c env (eval c env);pure (ForInStep.yield ok) else pure (ForInStep.yield r)
    if ok=true then do
     let _ <-(do
      let x <-eval elt env
      let _ <-call (.builtin "list.append") [acc,x]
      pure ())
     again (.compLoop (.ListComp elt [⟨t1,i1,[],0⟩,⟨t2,i2,[],0⟩] scope pos) 1 it acc env)
    else again (.compLoop (.ListComp elt [⟨t1,i1,[],0⟩,⟨t2,i2,[],0⟩] scope pos) 1 it acc env)):=rfl
def z29{prog:Program}{w:World}{A:Around}{R:Result->Ac->Prop}{s:Ac}{elt t1 i1 t2 i2:Expr}{scope:Scope}{pos:Pos}{it acc:Ab}{env:Env}(I:Nat->Ac->Prop)(turn:∀n s,I n s->wpAny (model prog w) A (pyNext it) (fun r s₁=>match r with
  |none=>R (.ok .next) s₁
  |some v=>wpAny (model prog w) A (letOwnedTupleGo t2 it v) (fun _ s₁'=>wpAny (model prog w) A (assign t2 env v) (fun _ s₂=>wpAny (model prog w) A (eval elt env) (fun x s₃=>
      wpAny (model prog w) A (call (.builtin "list.append") [acc,x]) (fun _ s₄=>∃m,m < n/\I m s₄) (fun _ _=>False) s₃)
     (fun _ _=>False) s₂) (fun _ _=>False) s₁') (fun _ _=>False) s₁) (fun _ _=>False) s)(n:Nat)(h:I n s):codeAny (model prog w) A (.compLoop (.ListComp elt [⟨t1,i1,[],0⟩,⟨t2,i2,[],0⟩] scope pos) 1 it acc env) R s:=by
 refine codeAny_loop rfl I (fun n s hI=>?_) n h;show wpAny _ _ ((compTurn (.ListComp elt [⟨t1,i1,[],0⟩,⟨t2,i2,[],0⟩] scope pos) 1 it acc env).onRaise fun x=>do noteFrame x env;theTreesLotGoes x) _ _ s;refine wpAny_noted ?_;rw[z0z];refine va (wpAny_standAt<|va (vM (turn n s hI) (fun r s₁ h₁=>?_) fun _ _ h'=>h'.elim));cases r with
|none=>exact ve h₁
|some v=>
  refine va (vM h₁ (fun _ s₁' h₁'=>?_) fun _ _ h'=>h'.elim);refine va (vM h₁' (fun _ s₂ h₂=>va<|wpAny_tests_nil ?_) fun _ _ h'=>h'.elim);rw[kz rfl];exact va (va (vM h₂ (fun x s₃' h₃'=>va (vM h₃' (fun _ s₄ h₄=>ve<|ve ⟨rfl,h₄⟩) fun _ _ h'=>h'.elim)) fun _ _ h'=>h'.elim))
def z1o{prog:Program}{w:World}{A:Around}{R:Result->Ac->Prop}{s:Ac}{elt t1 i1 t2 i2:Expr}{scope:Scope}{pos:Pos}{it acc:Ab}{env:Env}(I:Nat->Ac->Prop)(hs:∀x,foldedSetIterable i2 env x=pure x)(turn:∀n s,I n s->wpAny (model prog w) A (pyNext it) (fun r s₁=>match r with
  |none=>R (.ok .next) s₁
  |some v=>wpAny (model prog w) A (letOwnedTupleGo t1 it v) (fun _ s₁'=>wpAny (model prog w) A (assign t1 env v) (fun _ s₂=>wpAny (model prog w) A (eval i2 env) (fun x s₃=>
      wpAny (model prog w) A (pyIter x) (fun it2 s₄=>codeAny (model prog w) A (.compStart (.ListComp elt [⟨t1,i1,[],0⟩,⟨t2,i2,[],0⟩] scope pos) 1 it2 acc env) (fun r s₅=>r=.ok .next/\∃m,m < n/\I m s₅) s₄) (fun _ _=>False) s₃)
     (fun _ _=>False) s₂) (fun _ _=>False) s₁') (fun _ _=>False) s₁) (fun _ _=>False) s)(n:Nat)(h:I n s):codeAny (model prog w) A (.compLoop (.ListComp elt [⟨t1,i1,[],0⟩,⟨t2,i2,[],0⟩] scope pos) 0 it acc env) R s:=by
 refine codeAny_loop rfl I (fun n s hI=>?_) n h;show wpAny _ _ ((compTurn (.ListComp elt [⟨t1,i1,[],0⟩,⟨t2,i2,[],0⟩] scope pos) 0 it acc env).onRaise fun x=>do noteFrame x env;theTreesLotGoes x) _ _ s;refine wpAny_noted ?_;rw[z0A];refine va (wpAny_standAt<|va (vM (turn n s hI) (fun r s₁ h₁=>?_) fun _ _ h'=>h'.elim));cases r with
|none=>exact ve h₁
|some v=>
  refine va (vM h₁ (fun _ s₁' h₁'=>?_) fun _ _ h'=>h'.elim);refine va (vM h₁' (fun _ s₂ h₂=>va<|wpAny_tests_nil ?_) fun _ _ h'=>h'.elim);rw[kz rfl];refine va (vM h₂ (fun x s₃ h₃=>va<|wpAny_standAt ?_) fun _ _ h'=>h'.elim);rw[hs];refine va (ve<|va<|wpAny_holding (vM h₃ (fun it2 s₄ h₄=>?_) fun _ _ h'=>h'.elim));refine va (wpAny_runOwn ?_);refine codeAny_mono h₄ fun r s₅ q=>?_
  obtain⟨rfl,q⟩:=q;exact ve ⟨rfl,q⟩
def z7q(nt:Nat)(ix:List Nat)(wi:TI)(g:TG)(wi2:TI)(g2:TG)(te:TE):TE:=fun σ H Q=>wi σ H fun J H1=>∀l,H1 l=none->∃W:Nat->Nat->List V->St->Hp->Prop,(∃m,W 0 m [] (qO nt ix σ)<|upd H1 l<|.lst [])/\∀i m ys σ' H2,W i m ys σ' H2->
 (J.stop i H2/\Q (.ref l) H2)\/(J.go i H2/\∀x H3,J.yld i H2 x H3->g x σ' H3 fun σ2 H4=>wi2 σ2 H4 fun J2 H5=>∃W2:Nat->Nat->List V->St->Hp->Prop,(∃m2,W2 0 m2 ys σ2 H5)/\∀i2 m2 ys2 σ3 H6,W2 i2 m2 ys2 σ3 H6->
    (J2.stop i2 H6/\∃m',m' < m/\W (i+1) m' ys2 σ3 H6)\/(J2.go i2 H6/\∀x H7,J2.yld i2 H6 x H7->g2 x σ3 H7 fun σ4 H8=>te σ4 H8 fun v H9=>H9 l=some (.lst ys2)/\ys2.length < sizeLine/\∃m',m' < m2/\W2 (i2+1) m' (ys2++[v]) σ4 (upd H9 l<|.lst (ys2++[v]))))
section
variable {X:Cx}
def Jm{elt iter tg iter2 tg2:Expr}{N:List Str}{nt:Nat}{ix:List Nat}{scope:Scope}{cl:List (Str × Aa)}{pos:Pos}{vY:List (Aa × Obj)}{σ:St}{H:Hp}{s:Ac}{it:Aa}{fp:List Aa}{tn:Nat->Heap->Prop}{J:It}{g g2:TG}{wi2:TI}{te:TE}{Q:VK}{E:Ab->Ac->Prop}{RR:Ab->Aa->Result->Ac->Prop}(hc:X.calm=true)(sc:zT X N nt ix scope cl)(I:Inv X vY σ H s)(T:Turn X.prog X.w X.K tg J fp it tn)(st:tn 0 s.heap)(hf:∀b∈fp,FpOk X vY H b)(hg:∀(s:Ac)(H:Hp)(fp:List Aa)(C:Aa),PG (zt X N scope cl s H fp C) tg g)(hi2:∀(s:Ac)(H:Hp)(fp:List Aa)(C:Aa),PI (zt X N scope cl s H fp C) tg2 iter2 wi2)(hg2:∀(s:Ac)(H:Hp)(fp:List Aa)(C:Aa),PG (zt X N scope cl s H fp C) tg2 g2)(hs2:∀x C,foldedSetIterable iter2 (compEnvC scope cl C X.env) x=pure x)(he:∀(s:Ac)(H:Hp)(fp:List Aa)(C:Aa),PE (zt X N scope cl s H fp C) elt te)(h:∀l,H l=none->∃W:Nat->Nat->List V->St->Hp->Prop,(∃m,W 0 m [] (qO nt ix σ)<|upd H l<|.lst [])/\∀i m ys σ' H2,W i m ys σ' H2->
   (J.stop i H2/\Q (.ref l) H2)\/(J.go i H2/\∀x H3,J.yld i H2 x H3->g x σ' H3 fun σ2 H4=>wi2 σ2 H4 fun J2 H5=>∃W2:Nat->Nat->List V->St->Hp->Prop,(∃m2,W2 0 m2 ys σ2 H5)/\∀i2 m2 ys2 σ3 H6,W2 i2 m2 ys2 σ3 H6->
    (J2.stop i2 H6/\∃m',m' < m/\W (i+1) m' ys2 σ3 H6)\/(J2.go i2 H6/\∀x H7,J2.yld i2 H6 x H7->g2 x σ3 H7 fun σ4 H8=>te σ4 H8 fun v H9=>H9 l=some (.lst ys2)/\ys2.length < sizeLine/\∃m',m' < m2/\W2 (i2+1) m' (ys2++[v]) σ4 (upd H9 l<|.lst (ys2++[v])))))(hRR:∀D C s' H' m,Inv X vY σ H' s'->s'.heap.Ns C m->C≠X.env.locals->H' C=none->X.s₀.heap.objs.size<=C->(∀x c,X.env.cells.lookup x=some c->c≠C)->(∀p∈X.pn++vY,p.1≠C)->Q (.ref D) H'->RR (.ref D) C (.ok .next) s'):
  wpAny (model X.prog X.w) X.A (newList []) (fun acc s₃=>wpAny (model X.prog X.w) X.A (newFunctionEnv scope X.env.globals cl [] X.env.qual none .none<|some X.env) (fun cenv s₄=>
   codeAny (model X.prog X.w) X.A (.compStart (.ListComp elt [⟨tg,iter,[],0⟩,⟨tg2,iter2,[],0⟩] scope pos) 0 (.ref it) acc {cenv with scope:=relabel scope X.env}) (RR acc cenv.locals) s₄) E s₃) E s:=by
 refine vJ ?_;have I3:Inv X vY σ (upd H s.heap.objs.size<|.lst []) {s with heap:=s.heap.push {cls:=.type "list",data:=.seq ([]:List Ab).toArray} }:=I.lnew (ys:=[]) (its:=[]) (t':=s.toks) .nil (vj _);have st3:tn 0 (s.heap.push {cls:=.type "list",data:=.seq ([]:List Ab).toArray}):=T.keep _ _ _ st fun b hb o e=>vb _ e
 have fpl:∀b∈fp,b < s.heap.objs.size:=fun b hb=>by
  obtain⟨o,e,_⟩:=T.obj _ _ st b hb;exact vf e
 obtain⟨W,⟨m0,w0⟩,turn⟩:=h s.heap.objs.size I.fresh;have hf3:∀b∈fp,FpOk X vY (upd H s.heap.objs.size<|.lst []) b:=fun b hb=>⟨by rw[zg<|vn<|fpl b hb];exact (hf b hb).1,(hf b hb).2⟩
 generalize hD:s.heap.objs.size=D at *;generalize hH3:upd H D (HO.lst [])=H3 at *;generalize hs3:({s with heap:=s.heap.push {cls:=.type "list",data:=.seq ([]:List Ab).toArray} }:Ac)=s3 at *;have hsz3:s3.heap.objs.size=D+1:=by rw[<-hs3,<-hD];exact Heap.size_push ..
 have st3':tn 0 s3.heap:=by rw[<-hs3];exact st3
 refine wpAny_newFunctionEnv (s:=s3) sc.nocell (by intro y hy;simp at hy) (fun h1 hns hsb=>?_) sc.kind;generalize hC:s3.heap.objs.size=C at *;have kept:∀b o,s3.heap.get? b=some o->h1.get? b=some o:=fun b o e=>hsb.extBut b o (by rw[<-hC];exact vn (vf e)) (vb _ e)
 show codeAny (model X.prog X.w) X.A (.compStart (.ListComp elt [⟨tg,iter,[],0⟩,⟨tg2,iter2,[],0⟩] scope pos) 0 (.ref it) (.ref D)<|compEnvC scope cl C X.env) (RR (.ref D) C) {s3 with heap:=h1,toks:=s3.toks+0};have fpC:∀b∈fp,b≠C:=fun b hb=>vn (kM (fpl b hb)<|by rw[hsz3];exact Nat.le_succ D)
 have cellC:∀x c,cl.lookup x=some c->c≠C:=fun x c e z=>by
  obtain⟨v,q⟩:=I3.cell x c (sc.sub x c e);have:=q.lt
  rw[hC,z] at this;exact vD _ this
 have ok:(zt X N scope cl s3 H3 fp C).Ok:={
  mod:=I.ok.mod,kind:=(show (relabel scope X.env).kind=.function from sc.kind),glob:=I.ok.glob,blt:=I.ok.blt,above:=kY hC
  inj:=fun y z c e e'=>I.ok.inj y z c (sc.sub y c e) (sc.sub z c e')
  has:=fun y hy=>sc.has y hy
  cab:=fun y c e _=>nomatch e
  hd:=fun _=>I.ok.hd hc
  frames:=I.ok.frames
  stk:=.inl rfl
  exf:=fun b hb=>⟨fpC b hb,fun y c e=>(hf3 b hb).2.2.2.2.1 y c<|sc.sub y c e⟩
  bs:=I3.bs
  bsz:=kr I.ok.bsz I3.sz
  noex:=fun b o e hb=>by
   obtain⟨_,_,_,h4,_⟩:=hf3 b hb;rcases h4 with z|z
   ·exact I.ok.noex b o e z
   ·exact vd (kM (vf (I.ok.bs b o e).1) z) (vD _)
  exfs:=fun b hb z=>by
   obtain⟨_,h1,h2,_⟩:=hf3 b hb;rcases kE.mp (I3.stkSub b z) with q|q
   ·exact h1 q
   ·exact h2 q
  funs:=I3.stack
  frf:=I3.stkFree}
 have cellK:∀c v,s3.heap.IsCell c v->h1.IsCell c v:=fun c v ⟨o,ho,hd⟩=>⟨o,kept c o ho,hd⟩
 have I4:Inv (zt X N scope cl s3 H3 fp C) [] (qO nt ix σ) H3 {s3 with heap:=h1,toks:=s3.toks+0}:={
  ok:=ok,os:=rfl,bare:=I3.bare,base:=Un.kept kept
  loc:=⟨_,hns,fun i y v e1 e2 _=>by
   have e2:(qO nt ix σ)[i]?=some (some v):=e2;unfold qO at e2;by_cases hi:i < nt
   ·rw[yg (by simpa using hi),vt,kz hi] at e2;cases e2
   ·obtain⟨j,rfl⟩:∃j,i=nt+j:=⟨i - nt,by lia⟩
    rw[yh (by simp),vk,Ar,vh] at e2;obtain⟨k,hk,hXN,hkind,hrel,hcl⟩:=sc.free j y e1;rw[hk] at e2;have e3:σ[k]?=some (some v):=by
     cases q:σ[k]? with
    |none=>rw[Option.map_some,q] at e2;cases e2
    |some o=>rw[Option.map_some,q] at e2;simpa using e2
    obtain⟨m,_,hl⟩:=I3.loc;obtain⟨u,ru,lk⟩:=hl k y v hXN e3 (.inr<|.inl hkind);refine⟨u,ru,.inr ⟨.inl hrel,?_⟩⟩;rcases lk with ⟨z,_⟩|⟨_,c,hcc,hcell⟩
    ·rw[hkind] at z;cases z
    ·exact⟨c,hcl c hcc,cellK _ _ hcell⟩⟩
  cell:=fun y c e=>let ⟨v,q⟩:=I3.cell y c (sc.sub y c e);⟨v,cellK _ _ q⟩
  free:=I3.hok.fresh (kY hC)
  freeC:=fun y c e=>I3.freeC y c (sc.sub y c e)
  pin:=fun p hp=>vd (show p∈([]:List (Aa × Obj)) from hp) (by simp)
  hok:=I3.hok.kept kept
  len:=by show (qO nt ix σ).length=N.length;rw[sc.len];unfold qO;simp}
 have st4:tn 0 h1:=T.keep _ _ _ st3' fun b hb o e=>kept b o e
 have stat:∀{H':Hp},(∀b∈fp,H' b=none)->∀b∈fp,FpOk (zt X N scope cl s3 H3 fp C) [] H' b:=fun hn b hb=>⟨hn b hb,fpC b hb,ok.exfs b hb,.inl hb,(fun y c e=>(hf3 b hb).2.2.2.2.1 y c<|sc.sub y c e),fun p hp=>vd (show p∈([]:List (Aa × Obj)) from hp)<|by simp⟩
 have loop:codeAny (model X.prog X.w) X.A (.compLoop (.ListComp elt [⟨tg,iter,[],0⟩,⟨tg2,iter2,[],0⟩] scope pos) 0 (.ref it) (.ref D)<|compEnvC scope cl C X.env) (RR (.ref D) C) {s3 with heap:=h1,toks:=s3.toks+0}:=by
  refine z1o (fun n s'=>∃i ys σ' H',Inv (zt X N scope cl s3 H3 fp C) [] σ' H' s'/\tn i s'.heap/\(∀b∈fp,H' b=none)/\W i n ys σ' H') (fun x=>hs2 x C) ?_ m0 ⟨0,[],_,H3,I4,st4,fun b hb=>(hf3 b hb).1,w0⟩;rintro n s5 ⟨i,ys,σ5,H5,I5,st5,fr5,w5⟩;rcases turn i n ys σ5 H5 w5 with ⟨stop,qn⟩|⟨go,step⟩
  ·refine thn (T.done (zt X N scope cl s3 H3 fp C) rfl rfl rfl rfl i [] s5 σ5 H5 _ I5 (stat fr5) st5 stop) fun r s6 zz=>?_
   obtain⟨hr,I6⟩:=zz;subst hr;obtain⟨m6,n6,_⟩:=I6.loc;refine hRR D C s6 H5 m6 (I3.call' I6.os I6.base I6.hok I6.bare fun b hb=>?_) n6 (As<|by have:=I3.lt;rw[hC] at this;exact this) I6.free (by have:=I3.sz;rw[hC] at this;exact this) (fun y c e z=>?_) (fun p hp z=>?_) qn
   ·obtain⟨_,h1,_,h4,h5,h6⟩:=hf3 b hb;exact⟨h4,h1,h5,h6⟩
   ·obtain⟨v,q⟩:=I3.cell y c e;have:=q.lt
    rw[hC,z] at this;exact vD _ this
   ·have:=vf (I3.pin p hp).1
    rw[hC,z] at this;exact vD _ this
  ·refine thn (T.item (zt X N scope cl s3 H3 fp C) rfl rfl rfl rfl i [] s5 σ5 H5 _ I5 (stat fr5) st5 go) fun r s6 zz=>?_
   obtain⟨u,hr,h6⟩:=zz;subst hr;refine thn h6 fun _ s7 zz=>?_
   obtain⟨v,H7,I7,r7,y7,st7,fr7⟩:=zz;have I7':=I7.pinned (stat fr7) (T.obj _ _ st7);refine thn (hg s3 H3 fp C _ s7 σ5 H7 v u _ I7' r7<|step v H7 y7) fun _ s8 zz=>?_
   obtain⟨σ8,H8,I8,q8⟩:=zz;refine thn (hi2 s3 H3 fp C _ s8 σ8 H8 _ I8 q8) fun xv s9 h9=>thn h9 fun itv2 s10 h10=>?_
   obtain⟨it2,fp2,tn2,J2,H10,e10,I10,T2,st10,f10,W2,⟨m20,w20⟩,turn2⟩:=h10;subst e10;have stat2:∀{H':Hp},(∀b∈fp2,H' b=none)->∀b∈fp2,FpOk (zt X N scope cl s3 H3 fp C) ([]++Qv fp s7.heap) H' b:=fun hn b hb=>⟨hn b hb,(f10 b hb).2⟩
   have loop2:codeAny (model X.prog X.w) X.A (.compLoop (.ListComp elt [⟨tg,iter,[],0⟩,⟨tg2,iter2,[],0⟩] scope pos) 1 (.ref it2) (.ref D)<|compEnvC scope cl C X.env) (fun r s₅=>r=.ok .next/\∃m,m < n/\∃i ys σ' H',Inv (zt X N scope cl s3 H3 fp C) [] σ' H' s₅/\tn i s₅.heap/\(∀b∈fp,H' b=none)/\W i m ys σ' H') s10:=by
    refine z29 (fun n2 s'=>∃i2 ys2 σ' H',Inv (zt X N scope cl s3 H3 fp C) ([]++Qv fp s7.heap) σ' H' s'/\tn2 i2 s'.heap/\(∀b∈fp2,H' b=none)/\W2 i2 n2 ys2 σ' H') ?_ m20 ⟨0,ys,σ8,H10,I10,st10,fun b hb=>(f10 b hb).1,w20⟩;rintro n2 s11 ⟨i2,ys2,σ11,H11,I11,st11,fr11,w11⟩;rcases turn2 i2 n2 ys2 σ11 H11 w11 with ⟨stop2,m',hm',wn⟩|⟨go2,step2⟩
    ·refine thn (T2.done (zt X N scope cl s3 H3 fp C) rfl rfl rfl rfl i2 _ s11 σ11 H11 _ I11 (stat2 fr11) st11 stop2) fun r s12 zz=>?_
     obtain⟨hr2,I12⟩:=zz;subst hr2;refine⟨rfl,m',hm',i+1,ys2,σ11,H11,I12.unpinned (vY:=[]),T.keep _ _ _ st7 fun b hb o e=>(I12.pin (b,o)<|kN _<|kN _<|qD hb e).1,fun b hb=>?_,wn⟩;obtain⟨o,e,d⟩:=T.obj _ _ st7 b hb;exact (I12.pin (b,o)<|kN _<|kN _<|qD hb e).2.1
    ·refine thn (T2.item (zt X N scope cl s3 H3 fp C) rfl rfl rfl rfl i2 _ s11 σ11 H11 _ I11 (stat2 fr11) st11 go2) fun r s12 zz=>?_
     obtain⟨u2,hr2,h12⟩:=zz;subst hr2;refine thn h12 fun _ s13 zz=>?_
     obtain⟨v2,H13,I13,r13,y13,st13,fr13⟩:=zz;have I13':=I13.pinned (stat2 fr13) (T2.obj _ _ st13);refine thn (hg2 s3 H3 fp C _ s13 σ11 H13 v2 u2 _ I13' r13<|step2 v2 H13 y13) fun _ s14 zz=>?_
     obtain⟨σ14,H14,I14,q14⟩:=zz;refine thn (he s3 H3 fp C _ s14 σ14 H14 _ I14 q14) fun yv s15 zz=>?_
     obtain⟨y,H15,I15,r15,q15⟩:=zz;obtain⟨hl9,hz9,m',hm',w9⟩:=q15;obtain⟨z9,its,k9,rv9,ll9,e9⟩:=I15.lstM hl9;refine call_meets F.slot_list_append ⟨_,e9,rfl⟩ F.entry_list_append (F.args_list_append_2 _ _) (PySem.list_append D its.toArray k9 yv<|by rw[kF];lia) ⟨e9,?_⟩;have I16:=I15.lset (t':=s15.toks) (its':=its++[yv]) (f:=(·.push yv)) hl9 e9 (by simp) (rv9.append<|.cons r15 .nil) (by rw[km,kG];lia);refine⟨m',hm',i2+1,ys2++[y],σ14,_,I16.unpinned,T2.keep _ _ _ st13 fun b hb o e=>(I16.pin (b,o)<|kN _<|kN _<|qD hb e).1,fun b hb=>?_,w9⟩;obtain⟨o,e,d⟩:=T2.obj _ _ st13 b hb;exact (I16.pin (b,o)<|kN _<|kN _<|qD hb e).2.1
   exact z1n loop2 (T2.self _ 0 _ _ _ st10 loop2)
 exact codeAny_compStart_list loop (T.self _ 0 _ _ _ st4 loop)
def z6h{elt iter tg iter2 tg2:Expr}{N:List Str}{nt:Nat}{ix:List Nat}{scope:Scope}{cl:List (Str × Aa)}{pos:Pos}{wi wi2:TI}{g g2:TG}{te:TE}(hc:X.calm=true)(sc:zT X N nt ix scope cl)(hi:PI X tg iter wi)(hg:∀(s:Ac)(H:Hp)(fp:List Aa)(C:Aa),PG (zt X N scope cl s H fp C) tg g)(hi2:∀(s:Ac)(H:Hp)(fp:List Aa)(C:Aa),PI (zt X N scope cl s H fp C) tg2 iter2 wi2)(hg2:∀(s:Ac)(H:Hp)(fp:List Aa)(C:Aa),PG (zt X N scope cl s H fp C) tg2 g2)(he:∀(s:Ac)(H:Hp)(fp:List Aa)(C:Aa),PE (zt X N scope cl s H fp C) elt te)(hs:∀x,foldedSetIterable iter X.env x=pure x:=by intro _;rfl)(hs2:∀x C,foldedSetIterable iter2 (compEnvC scope cl C X.env) x=pure x:=by intro _ _;rfl):
  PE X (.ListComp elt [⟨tg,iter,[],0⟩,⟨tg2,iter2,[],0⟩] scope pos) (z7q nt ix wi g wi2 g2 te):=by
 intro vY s σ H Q I h;rw[eval_ListComp];refine wpAny_comprehension_free (use:=none) rfl hs sc.clos sc.kind sc.names (thn (hi vY s σ H _ I h) fun v s1 h1=>thn h1 fun itv s2 h2=>?_);obtain⟨it,fp,tn,J,H2,e,I2,T,st2,f2,q2⟩:=h2;subst e;refine Jm (RR:=fun acc C=>compPost (model X.prog X.w) X.A X.xe none (EP X vY σ Q) acc C) hc sc I2 T st2 f2 hg hi2 hg2 hs2 he q2 ?_;intro D C s' H' m I' n' c1 c2 c3 c4 c5 q';exact⟨m,n',fun h' hs'=>⟨.ref D,H',I'.turned (t':=s'.toks) (it:=C) (fun b o hb e=>(hs'.2 b hb).trans e) c2 c1 (.inr c3) c4 c5,rfl,q'⟩⟩
end
section
variable {X:Cx}
inductive z2v(x:V)(vs:List V)(H:Hp)(Q:VK):Prop
|mk (l:_) (xs:_) (y:_):x=.ref l->vs=[.int 0,y]->H l=some (.lst xs)->xs.length < sizeLine->Q .non (upd H l<|.lst (y::xs))->z2v x vs H Q
def z3n:MtM X "list.insert" z2v:=by
 intro vY s σ H x vs v us Q I rx rv h;obtain⟨l,xs,y,rfl,rfl,hH,hz,q⟩:=h;cases rx;cases rv with
|cons r0 rv=>
  obtain⟨u,rfl,ru⟩:=Vals.one rv;obtain⟨t,rfl⟩:=r0;obtain⟨z,its,n,r,hl,e⟩:=I.lstM hH;refine call_meets F.slot_list_insert ⟨_,e,rfl⟩ F.entry_list_insert (F.args_list_insert_3 _ _ _) (PySem.AutoListH.list_insert_list_int_val_1 l its.toArray n 0 t u (by decide)<|by rw[kF];lia) ⟨e,?_⟩;refine⟨.non,_,I.lset (its':=u::its) hH e ?_ (.cons ru r) ?_,rfl,q⟩
  ·simp
  ·rw[kP];lia
def z0S:∀{ns:List Int}{us vs:List Ab},Vals (ns.map V.int) us->Vals (ns.map V.int) vs->us.length=vs.length/\∀j (h1:j < us.length) (h2:j < vs.length),∃i t t',us[j]=.int i t/\vs[j]=.int i t'
|[],_,_,.nil,.nil=>⟨rfl,fun j h1=>vd h1<|by simp⟩
|n::ns,_,_,.cons a r,.cons b r'=>by
  obtain⟨e,h⟩:=z0S r r';refine⟨by rw[kP,kP,e],fun j h1 h2=>?_⟩;cases j with
 |zero=>
   obtain⟨t,rfl⟩:=a;obtain⟨t',rfl⟩:=b;exact⟨n,t,t',rfl,rfl⟩
 |succ j=>exact h j (by simpa using h1) (by simpa using h2)
def TupT(K:ku)(H:Hp)(p:Aa)(rs:List (List Int)):Prop:=∃as:List Aa,SqT K H p (as.map V.ref)/\as.length=rs.length/\∀(i:Nat) a r,as[i]?=some a->rs[i]?=some r->H a=some (.tup<|r.map V.int)
inductive z9U(K:ku)(x:V)(y:V)(H:Hp)(Q:VK):Prop
|mk (p q:Aa) (rs:List (List Int)):x=.ref p->y=.ref q->TupT K H p rs->TupT K H q rs->Q (.bl true) H->z9U K x y H Q
def z93{vY:List (Aa × Obj)}{σ:St}{H:Hp}{s:Ac}(I:Inv X vY σ H s)(hu:X.A.units+3 < cLine){as bs:List Aa}{rs:List (List Int)}(ha:as.length=rs.length)(hb:bs.length=rs.length)(h1:∀(i:Nat) a r,as[i]?=some a->rs[i]?=some r->H a=some (.tup<|r.map V.int))(h2:∀(i:Nat) a r,bs[i]?=some a->rs[i]?=some r->H a=some (.tup<|r.map V.int))(j:Nat)(g1:j < as.length)(g2:j < bs.length):
  SeqAt.EqAt X.A.in1 s (.ref as[j]) (.ref bs[j]) true:=by
 have gr:j < rs.length:=by lia
 have e1:=h1 j as[j] rs[j] (kL g1) (kL gr);have e2:=h2 j bs[j] rs[j] (kL g2) (kL gr);by_cases hne:as[j]=bs[j]
 ·rw[hne];exact SeqAt.EqAt.same _
 ·obtain⟨its,r,pl,_⟩:=I.tuple (SqT.of e1);obtain⟨its2,r2,pl2,_⟩:=I.tuple (SqT.of e2);obtain⟨el,eq⟩:=z0S r r2;refine SeqAt.EqAt.of_refs hne ?_;have T:=SeqAt.RcAt.tuples (A:=X.A.in1) (s:=s) (e:=fun _=>true) pl pl2 (show X.A.units+1 < cLine by lia) (fun k g1 g2=>by
   obtain⟨i,t,t',e1,e2⟩:=eq k (by simpa using g1) (by simpa using g2);have:=SeqAt.EqAt.int_int (A:=X.A.in1.in1) (s:=s) i t i t'
   rw[yc] at this;simpa [e1,e2] using this)
  rw[List.all_eq_true.mpr fun _ _=>rfl] at T;have es:(its.toArray.size == its2.toArray.size)=true:=by simpa using el
  rw[es] at T;exact T
def z8h(hu:X.A.units+3 < cLine):OpR X (compareOp .Eq) (z9U X.K):=by
 intro vY s σ H x y v u Q I rx ry h;obtain⟨p,q,rs,rfl,rfl,⟨as,ta,la,ha⟩,⟨bs,tb,lb,hb⟩,hq⟩:=h;cases rx;cases ry;obtain⟨its,r,pl,_⟩:=I.tuple ta;obtain⟨its2,r2,pl2,_⟩:=I.tuple tb;have e1:=z0D r;have e2:=z0D r2;subst e1;subst e2;refine SeqAt.eq_tupleAt (e:=fun _=>true) pl pl2 (by lia) (fun j g1 g2=>?_) ⟨.bl _,H,I,rfl,?_⟩
 ·have:=z93 I hu la lb ha hb j (by simpa using g1) (by simpa using g2)
  simpa using this
 ·rw[List.all_eq_true.mpr fun _ _=>rfl];have es:((as.map Value.ref).toArray.size == (bs.map Value.ref).toArray.size)=true:=by simp;lia
  rw[es];exact hq
end
section
variable {X:Cx}
inductive z4g(x:V)(vs:List V)(H:Hp)(Q:VK):Prop
|mk (l:Aa) (ss:List Str) (z:Str) (j:Nat):x=.ref l->vs=[.str z]->H l=some (.lst<|ss.map V.str)->ss[j]?=some z->(∀m,m < j->ss[m]?≠some z)->ss.length<=1000->Q (.int (j:Nat)) H->z4g x vs H Q
def J9:MtM X "list.index" z4g:=by
 intro vY s σ H x vs v us Q I rx rv h;obtain⟨l,ss,z0,j,rfl,rfl,hH,hj,hno,hz,q⟩:=h;cases rx;obtain⟨u,rfl,t,rfl⟩:=rv.one;obtain⟨z,its,n,r,hl,e⟩:=I.lstM hH;rw[kl] at hl;have at_:∀(m:Nat)(hm:m < its.toArray.size),∃k tk,ss[m]?=some k/\its.toArray[m]=.str k tk:=fun m hm=>by
  have hm:m < its.length:=by simpa using hm
  have k1:m < ss.length:=by lia
  obtain⟨u,e1,tk,r1⟩:=r.get (show (ss.map V.str)[m]?=some (.str ss[m]) by simp[k1]);refine⟨ss[m],tk,by simp[k1],?_⟩;have:=kL hm
  rw[e1] at this;rw[<-r1];simpa using (kC this).symm
 have hjl:j < ss.length:=(kh.mp hj).1;refine call_meets F.slot_list_index ⟨_,e,rfl⟩ F.entry_list_index (F.args_list_index_2 _ _)
  (SeqAt.list_indexAt l its.toArray n none #[] (.str z0 t) (fun y=>match y with|.str k _=>k == z0|_=>false) j (by rw[kF];lia) (by lia) ?_ ?_) ⟨e,?_,?_⟩
 ·obtain⟨k,tk,e1,e2⟩:=at_ j (by rw[kF];lia)
  rw[e2];rw[hj] at e1;cases e1;simp
 ·intro m hm hlt;obtain⟨k,tk,e1,e2⟩:=at_ m hm
  rw[e2];have:=hno m hlt
  rw[e1] at this;simpa using fun z=>this (by rw[z])
 ·intro y hy;obtain⟨m,hm,rfl⟩:=Array.mem_iff_getElem.mp hy;obtain⟨k,tk,e1,e2⟩:=at_ m hm
  rw[e2];exact SeqAt.EqAt.str_str _ _ _ _
 ·exact⟨.int (j:Nat),H,I.tok _,⟨_,rfl⟩,q⟩
end
section
variable {prog:Program}{w:World}{A:Around}{E:Ab->Ac->Prop}{s:Ac}
def z3x{d:Aa}{o:Obj}{es:Array DictEntry}{ep:Nat}{Q:Ab->Ac->Prop}(hd:(d == sysModules)=false)(ho:s.heap.get? d=some o)(hex:o.ExactDict)(hdat:o.data=.dict es ep)(hQ:Q (.ref s.heap.objs.size) {s with heap:=s.heap.push {cls:=.type "dict_keyiterator",data:=.fields #[.ref d,.int 0 0,.int es.size 0,.int ep 0]} }):wpAny (model prog w) A (pyIter<|.ref d) Q E s:=by
 have hT:s.TypeIs (.ref d) "dict":=⟨_,ho,hex.1⟩
 refine wpAny_pyIter_slot hT F.slot_dict_iter (wpAny_call_entry F.slot_dict_iter hT F.entry_dict_iter ?_<|F.args_dict_iter_1 _);unfold Builtin.«dict.__iter__»;refine va ?_;unfold Builtin.Dict.dictSlotNone;refine va (wpAny_notOrdered_dict hT ?_);show wpAny _ _ (pure<|Value.ref d) _ _ s;refine ve ?_;show wpAny _ _ (Builtin.Dict.showsAll d >>= _) _ _ s;unfold Builtin.Dict.showsAll;rw[ky<|by rw[hd];exact ke];refine va (ve ?_);refine va (wpAny_dictEntries ho hdat ?_);refine va (wpAny_dictEpoch ho hdat ?_);refine va (vJ<|ve ⟨_,rfl,"dict_keyiterator",_,⟨_,vg _ rfl,rfl⟩,F.slot_dict_keyiterator_next.lookup,?_⟩);simpa [rawInt] using hQ
def z4Q{it d:Aa}{i ep:Nat}{od:Obj}{es:Array DictEntry}{Q:Option Ab->Ac->Prop}(hit:s.heap.IsKeyIter it d i es.size ep)(hod:s.heap.get? d=some od)(hdd:od.data=.dict es ep)(hlt':i < es.size)(hQ:∀h',h'.IsKeyIter it d (i+1) es.size ep->Heap.SameBut it s.heap h'->Q (some es[i].key) {s with heap:=h'}):wpAny (model prog w) A (pyNext<|.ref it) Q E s:=by
 obtain⟨o,ho,hc,hd⟩:=id hit;unfold pyNext;refine va (wpAny_attempt (wpAny_callSpecial?_slot (name:=Str.ofString "__next__") hit.typeIs F.slot_dict_keyiterator_next
  (wpAny_call_entry F.slot_dict_keyiterator_next hit.typeIs F.entry_dict_keyiterator_next ?_<|F.args_dict_keyiterator_next_1 _)))
 refine va (ve<|va<|va ?_);first|refine va (wpAny_typeNameOfWhole_keyiter hit.typeIs<|ve ?_)|refine va (wpAny_typeNameOf_keyiter hit.typeIs<|ve ?_)
 refine va (wpAny_fieldsOf ho hd ?_);have hown:Builtin.Dict_items.ownsTuple "dict_keyiterator"=false:=by decide
 simp only[hown,Bool.false_eq_true,if_false];show wpAny _ _ (if (Value.ref d == Value.none)=true then _ else _) _ _ s;rw[ky (show ¬((Value.ref d == Value.none)=true) from ke)];refine va (ve<|va<|wpAny_dictEntries hod hdd ?_);rw[ky<|by simp];refine va (ve<|va<|wpAny_dictEpoch hod hdd ?_);rw[ky<|by simp];refine ve ?_;simp only[show ¬((i:Int) < 0) from by lia,if_false,ya,Array.getElem?_eq_getElem hlt'];refine va ?_;first|refine va (wpAny_typeNameOfWhole_keyiter hit.typeIs<|ve ?_)|refine va (wpAny_typeNameOf_keyiter hit.typeIs<|ve ?_)
 refine va (wpAny_isOneOf_keyiter hit.typeIs ?_);show wpAny _ _ (setField (.ref it) 1 (rawInt ((i:Int)+1)) >>= _) _ _ s;refine va (wpAny_setField ho hd (by simp) ?_);have hit':(s.heap.update it<|Obj.mapFields (·.setIfInBounds 1 (rawInt ((i:Int)+1)))).IsKeyIter it d (i+1) es.size ep:=
  ⟨_,Heap.get?_update_self _ ho<|Obj.isFreed_of_fields<|Obj.data_mapFields hd _,(Obj.cls_mapFields ..).trans hc,by rw[Obj.data_mapFields hd];simp[rawInt]⟩
 refine va (wpAny_holding ?_);refine va (wpAny_isOneOf_keyiter (s:={s with heap:=s.heap.update it (Obj.mapFields (·.setIfInBounds 1 (rawInt ((i:Int)+1))))}) hit'.typeIs ?_);show wpAny _ _ (pure es[i].key) _ _ _;exact ve (ve ⟨_,rfl,ve<|hQ _ hit'<|Heap.SameBut.update ..⟩)
def z6B{it d:Aa}{i ep:Nat}{od:Obj}{es:Array DictEntry}{Q:Option Ab->Ac->Prop}(hh:A.handled=none)(hit:s.heap.IsKeyIter it d i es.size ep)(hod:s.heap.get? d=some od)(hdd:od.data=.dict es ep)(hge:es.size<=i)(hQ:∀h',Heap.ExtBut it s.heap h'->Q none {s with heap:=h'}):wpAny (model prog w) A (pyNext<|.ref it) Q E s:=by
 obtain⟨o,ho,hc,hd⟩:=id hit;unfold pyNext;refine va (wpAny_attempt (wpAny_callSpecial?_slot (name:=Str.ofString "__next__") hit.typeIs F.slot_dict_keyiterator_next
  (wpAny_call_entry F.slot_dict_keyiterator_next hit.typeIs F.entry_dict_keyiterator_next ?_<|F.args_dict_keyiterator_next_1 _)))
 refine va (ve<|va<|va ?_);first|refine va (wpAny_typeNameOfWhole_keyiter hit.typeIs<|ve ?_)|refine va (wpAny_typeNameOf_keyiter hit.typeIs<|ve ?_)
 refine va (wpAny_fieldsOf ho hd ?_);have hown:Builtin.Dict_items.ownsTuple "dict_keyiterator"=false:=by decide
 simp only[hown,Bool.false_eq_true,if_false];show wpAny _ _ (if (Value.ref d == Value.none)=true then _ else _) _ _ s;rw[ky (show ¬((Value.ref d == Value.none)=true) from ke)];refine va (ve<|va<|wpAny_dictEntries hod hdd ?_);rw[ky<|by simp];refine va (ve<|va<|wpAny_dictEpoch hod hdd ?_);rw[ky<|by simp];refine ve ?_;simp only[show ¬((i:Int) < 0) from by lia,if_false,ya,Array.getElem?_eq_none hge];refine va ?_;first|refine va (wpAny_typeNameOfWhole_keyiter hit.typeIs<|ve ?_)|refine va (wpAny_typeNameOf_keyiter hit.typeIs<|ve ?_)
 show wpAny _ _ (setField (.ref it) 0 .none >>= _) _ _ s;refine va (wpAny_setField ho hd (by simp) ?_);show wpAny _ _ (newExc (.type "StopIteration") [] >>= _) _ _ _;refine va ?_;simp only[newExc,newTuple];refine va (vJ ?_<|by size_fits);refine va (m:=firstArgMember _ _) (wpAny_of_eq (a:=Value.none) (by first|rfl|(simp only[firstArgMember];rfl)) ?_);refine vJ ?_ (by size_fits);simp only[raiseNew];refine va (wpAny_handled ?_);rw[show A.in1.handled=none from hh];refine va (ve<|wpAny_throw ?_);refine va (wpAny_isInstance (T:="StopIteration") (b:=true) ⟨_,vg _ rfl,rfl⟩ isSubtype_stop ?_);exact ve (hQ _<|((Heap.SameBut.update ..).extBut.push _).push _)
end
def Ju{prog:Program}{w:World}{A:Around}{E:Ab->Ac->Prop}{s:Ac}{it d:Aa}{i n ep:Nat}{Q:Ab->Ac->Prop}(he:s.heap.IsKeyIter it d i n ep)(h:Q (.ref it) s):wpAny (model prog w) A (pyIter<|.ref it) Q E s:=by
 have hT:=he.typeIs;refine wpAny_pyIter_slot hT F.slot_dict_keyiterator_iter (wpAny_call_entry F.slot_dict_keyiterator_iter hT F.entry_dict_keyiterator_iter ?_<|F.args_dict_keyiterator_iter_1 _);show wpAny _ _ (ret<|.ref it) _ _ s;exact ve ⟨_,rfl,"dict_keyiterator",_,hT,F.slot_dict_keyiterator_next.lookup,h⟩
def Qc{prog:Program}{w:World}{A:Around}{E:Ab->Ac->Prop}{s:Ac}{Q:Int->Ac->Prop}(h:Q (PySem.W.hashW w.params .none) {s with toks:=s.toks+1}):wpAny (model prog w) A (pyHash .none) Q E s:=by
 exact PySem.W.pyHash_slot (T:="NoneType") rfl F.slot_NoneType_hash F.entry_NoneType_hash (F.args_NoneType_hash_1 _) rfl (.inl rfl) (va<|ve<|va<|wpAny_mkInt<|ve ⟨_,_,rfl,h⟩)
section
variable {X:Cx}{tg:Expr}
noncomputable def FzN(a:Aa)(o:Obj):HO:=.ext fun h=>h.get? a=some o
def z7D{P:Program}{w:World}{H:Hp}{h:Heap}{a:Aa}{o:Obj}(e:h.get? a=some o):qq P w H h a (FzN a o):=⟨e,⟨o,e⟩,fun h1 h2 p k=>k o p⟩
def z1f{P:Program}{w:World}{H:Hp}{h:Heap}{a:Aa}{o:Obj}(ok:HOk P w H h)(e:H a=some (FzN a o)):h.get? a=some o:=(show qq P w H h a (FzN a o) from ok a _ e).1
end
end L2
set_option genInjectivity true
namespace L2
inductive KeyP where
|nil|num (i:Int)|txt (x:Str)
deriving DecidableEq
noncomputable def b2i(b:Bool):Int:=if b then 1 else 0
noncomputable def kpOf:V->Option KeyP
|.non=>some .nil
|.bl b=>some (.num<|b2i b)
|.int i=>some (.num i)
|.str x=>some (.txt x)
|_=>none
noncomputable def z4T:KeyP->Ab->Bool
|.nil,.none=>true
|.num i,.int j _=>j == i
|.num i,.bool b=>b2i b == i
|.txt x,.str y _=>y == x
|_,_=>false
def qf{k:KeyP}{v:Ab}(h:z4T k v=true):(k=.nil/\v=.none)\/(∃i t,k=.num i/\v=.int i t)\/(∃b,k=.num (b2i b)/\v=.bool b)\/∃x t,k=.txt x/\v=.str x t:=by
 cases k with
|nil=>cases v <;> first|exact .inl ⟨rfl,rfl⟩|cases h
|num i=>
  cases v <;> first|cases h|skip
  ·rename_i b
   have:b2i b=i:=eq_of_beq h
   subst this;exact .inr (.inr<|.inl ⟨b,rfl,rfl⟩)
  ·rename_i j t
   have:j=i:=eq_of_beq h
   subst this;exact .inr (.inl ⟨j,t,rfl,rfl⟩)
|txt x=>
  cases v <;> first|cases h|skip
  rename_i y t
  have:y=x:=eq_of_beq h
  subst this;exact .inr (.inr<|.inr ⟨y,t,rfl,rfl⟩)
def zas{x:V}{k:KeyP}{u:Ab}(h:kpOf x=some k)(r:RelV x u):z4T k u=true:=by
 cases x <;> try cases h
 ·cases r;rfl
 ·rename_i b;cases r;exact yc _
 ·obtain⟨t,rfl⟩:=r;exact yc _
 ·obtain⟨t,rfl⟩:=r;exact yc _
def Qd{prog:Program}{w:World}{A:Around}{E:Ab->Ac->Prop}{s:Ac}{b:Bool}{Q:Int->Ac->Prop}(h:Q (hashInt<|b2i b) {s with toks:=s.toks+1}):wpAny (model prog w) A (pyHash<|.bool b) Q E s:=by
 refine PySem.W.pyHash_slot (T:="bool") rfl F.slot_bool_hash entry_int_hash (args_int_hash _) rfl (.inl rfl) ?_;cases b
 ·exact (show wpAny _ _ (do ret (<-mkInt 0)) _ _ s from va (wpAny_mkInt<|ve ⟨_,_,rfl,h⟩))
 ·exact (show wpAny _ _ (do ret (<-mkInt 1)) _ _ s from va (wpAny_mkInt<|ve ⟨_,_,rfl,h⟩))
def z8v(i j:Int):(i == j)=decide (KeyP.num i=KeyP.num j):=by rw[vT];simp
def zbD(c d:Bool):(c == d)=decide (KeyP.num (b2i c)=KeyP.num (b2i d)):=by cases c <;> cases d <;> rfl
noncomputable def Qt(prog:Program)(w:World):PySem.KeyKind prog w KeyP where
 is:=z4T
 hash:=fun k=>match k with
 |.nil=>PySem.W.hashW w.params .none
 |.num i=>hashInt i
 |.txt x=>hashStr w x
 inj:=fun v a b ha hb=>by
  rcases qf ha with ⟨rfl,rfl⟩|⟨i,t,rfl,rfl⟩|⟨c,rfl,rfl⟩|⟨x,t,rfl,rfl⟩ <;>
  rcases qf hb with ⟨rfl,e⟩|⟨j,u,rfl,e⟩|⟨d,rfl,e⟩|⟨y,u,rfl,e⟩ <;> (cases e <;> rfl)
 byValue:=fun k v h=>by
  rcases qf h with ⟨rfl,rfl⟩|⟨i,t,rfl,rfl⟩|⟨c,rfl,rfl⟩|⟨x,t,rfl,rfl⟩ <;> rfl
 pyHash:=fun hv h=>by
  rcases qf hv with ⟨rfl,rfl⟩|⟨i,t,rfl,rfl⟩|⟨c,rfl,rfl⟩|⟨x,t,rfl,rfl⟩
  ·exact Qc h
  ·exact wpAny_pyHash_int h
  ·exact Qd h
  ·exact wpAny_pyHash_str h
 eqBool:=fun hu hv h=>by
  rcases qf hu with ⟨rfl,rfl⟩|⟨i,t,rfl,rfl⟩|⟨c,rfl,rfl⟩|⟨x,t,rfl,rfl⟩
  ·rcases qf hv with ⟨rfl,rfl⟩|⟨j,u,rfl,rfl⟩|⟨d,rfl,rfl⟩|⟨y,u,rfl,rfl⟩
   ·exact SeqAt.EqAt.same _ _ _ _ _ (by simpa using h)
   ·exact SeqAt.EqAt.none_int j u _ _ _ _ (by simpa using h)
   ·exact SeqAt.EqAt.none_bool d _ _ _ _ (by simpa using h)
   ·exact SeqAt.EqAt.none_str y u _ _ _ _ (by simpa using h)
  ·rcases qf hv with ⟨rfl,rfl⟩|⟨j,u,rfl,rfl⟩|⟨d,rfl,rfl⟩|⟨y,u,rfl,rfl⟩
   ·exact SeqAt.EqAt.int_none i t _ _ _ _ (by simpa using h)
   ·exact SeqAt.EqAt.int_int i t j u _ _ _ _ (by rw[z8v];exact h)
   ·exact SeqAt.EqAt.int_bool i t d _ _ _ _ (by rw[z8v];exact h)
   ·exact SeqAt.EqAt.int_str i t y u _ _ _ _ (by simpa using h)
  ·rcases qf hv with ⟨rfl,rfl⟩|⟨j,u,rfl,rfl⟩|⟨d,rfl,rfl⟩|⟨y,u,rfl,rfl⟩
   ·exact SeqAt.EqAt.bool_none c _ _ _ _ (by simpa using h)
   ·exact SeqAt.EqAt.bool_int c j u _ _ _ _ (by rw[z8v];exact h)
   ·exact SeqAt.EqAt.bool_bool c d _ _ _ _ (by rw[zbD];exact h)
   ·exact SeqAt.EqAt.bool_str c y u _ _ _ _ (by simpa using h)
  ·rcases qf hv with ⟨rfl,rfl⟩|⟨j,u,rfl,rfl⟩|⟨d,rfl,rfl⟩|⟨y,u,rfl,rfl⟩
   ·exact SeqAt.EqAt.str_none x t _ _ _ _ (by simpa using h)
   ·exact SeqAt.EqAt.str_int x t j u _ _ _ _ (by simpa using h)
   ·exact SeqAt.EqAt.str_bool x t d _ _ _ _ (by simpa using h)
   ·exact wpAny_eqBool_str (by simpa using h)
 «strs»:=fun k x t v h=>by
  rcases qf h with ⟨rfl,e⟩|⟨i,u,rfl,e⟩|⟨c,rfl,e⟩|⟨y,u,rfl,e⟩
  ·exact nomatch e
  ·exact nomatch e
  ·exact nomatch e
  ·injection e with e1 _
   subst e1;cases v <;> rfl
end L2
set_option genInjectivity false
namespace L2
noncomputable def isBl:V->Bool
|.bl _=>true
|_=>false
noncomputable def ckey(v:V):List V:=[.bl<|isBl v,v]
noncomputable def kp(v:V):KeyP:=(kpOf v).getD .nil
noncomputable def ck(v:V):List KeyP:=[.num<|b2i<|isBl v,kp v]
abbrev ScP(v:V):Prop:=∃k,kpOf v=some k
def zb5{v v':V}(h:ScP v)(h':ScP v')(e:ck v=ck v'):v=v':=by
 obtain⟨k,h⟩:=h;obtain⟨k',h'⟩:=h';unfold ck kp at e;rw[h,h'] at e;injection e with e1 e2
 injection e2 with e2 _
 have e2:k=k':=e2;subst e2;cases v <;> cases v' <;> simp[kpOf,isBl,b2i] at h h' e1 <;> first|rfl|skip
 all_goals first|(subst h;simp_all)|(simp_all)
 ·rename_i a b
  revert h'
  cases a <;> cases b <;> simp[b2i]
def z7L{P:Program}{w:World}{v:V}{us:List Ab}(h:ScP v)(r:Vals (ckey v) us):ItemsAre (Qt P w) (ck v) us:=by
 obtain⟨k,h⟩:=h;unfold ck kp;rw[h];cases r with
|cons a t=>
  cases t with
 |cons b t=>
   cases t;exact .cons (zas (x:=.bl (isBl v)) rfl a) (.cons (zas h b) .nil)
def z8w{P:Program}{w:World}{H:Hp}{h:Heap}{b:Aa}{v:V}(ok:HOk P w H h)(hs:ScP v)(e:H b=some (.tup<|ckey v)):(tupleKind<|Qt P w).is h (ck v) b:=by
 obtain⟨_,its,r,o,h1,h2,n,h3⟩:=(show qq P w H h b (.tup<|ckey v) from ok b _ e)
 exact⟨o,its.toArray,n,h1,h2,h3,by simpa using z7L hs r⟩
structure CD(P:Program)(w:World)(H:Hp)(a:Aa)(o:Obj)(vs:List V):Prop where
 sys:(a == sysModules)=false
 len:vs.length<=1000
 sc:∀v∈vs,ScP v
 nd:vs.Nodup
 ex:o.ExactDict
 ent:∃(xs:List (List KeyP × Aa × Ab))(es:Array DictEntry)(ep:Nat),xs.length=vs.length/\(∀(i:Nat) v x,vs[i]?=some v->xs[i]?=some x->x.1=ck v/\H x.2.1=some (.tup<|ckey v)/\RelV (.int (i:Int)) x.2.2)/\
  o.data=.dict es ep/\es.toList=xs.map (entryOfKey<|tupleKind<|Qt P w)/\(xs.map (·.1)).Nodup
def CD.keep{P:Program}{w:World}{H H':Hp}{a:Aa}{o:Obj}{vs:List V}(h:CD P w H a o vs)(k:∀b xs,H b=some (.tup xs)->H' b=some (.tup xs)):CD P w H' a o vs:=by
 obtain⟨h1,h2,h3,h3',h4,xs,es,ep,h5,h6,h7⟩:=h;exact⟨h1,h2,h3,h3',h4,xs,es,ep,h5,fun i v x e1 e2=>⟨(h6 i v x e1 e2).1,k _ _ (h6 i v x e1 e2).2.1,(h6 i v x e1 e2).2.2⟩,h7⟩
def CD.dict{P:Program}{w:World}{H:Hp}{h:Heap}{a:Aa}{o:Obj}{vs:List V}(c:CD P w H a o vs)(ok:HOk P w H h)(e:H a=some (FzN a o)):
  ∃xs,h.DictOfH (tupleKind<|Qt P w) a xs/\xs.length=vs.length/\(∀(i:Nat) v x,vs[i]?=some v->xs[i]?=some x->x.1=ck v/\H x.2.1=some (.tup<|ckey v)/\RelV (.int (i:Int)) x.2.2):=by
 obtain⟨h1,h2,h3,h3',h4,xs,es,ep,h5,h6,h7,h8,h9⟩:=c;refine⟨xs,⟨o,es,ep,z1f ok e,h4,h7,h8,fun x hx=>?_,h9⟩,h5,h6⟩;obtain⟨i,hi⟩:=List.mem_iff_getElem?.mp hx;have hl:i < vs.length:=by rw[<-h5];exact (kh.mp hi).1
 obtain⟨e1,e2,_⟩:=h6 i vs[i] x (kL hl) hi;rw[e1];exact z8w ok (h3 _<|List.getElem_mem hl) e2
def z9f{xs:List (List KeyP × Aa × Ab)}{vs:List V}{H:Hp}(hl:xs.length=vs.length)(hn:(xs.map (·.1)).Nodup)(h6:∀(i:Nat) v x,vs[i]?=some v->xs[i]?=some x->x.1=ck v/\H x.2.1=some (.tup<|ckey v)/\RelV (.int (i:Int)) x.2.2){i:Nat}{v:V}(hv:vs[i]?=some v):
  ∃p,atKey xs (ck v)=some p/\RelV (.int (i:Int)) p.2:=by
 have il:i < xs.length:=by rw[hl];exact (kh.mp hv).1
 obtain⟨e1,_,e3⟩:=h6 i v xs[i] hv (kL il);refine⟨xs[i].2,?_,e3⟩;have:xs[i]?=some (ck v,xs[i].2):=by rw[kL il,<-e1]
 exact atKey_of_get hn this
def zc3{xs:List (List KeyP × Aa × Ab)}{vs:List V}{H:Hp}(hl:xs.length=vs.length)(hs:∀v∈vs,ScP v)(h6:∀(i:Nat) v x,vs[i]?=some v->xs[i]?=some x->x.1=ck v/\H x.2.1=some (.tup<|ckey v)/\RelV (.int (i:Int)) x.2.2){v:V}(hv:ScP v)(hn:v∉vs):atKey xs (ck v)=none:=by
 refine atKey_none_of_get fun j p hj=>?_
 have jl:j < vs.length:=by rw[<-hl];exact (kh.mp hj).1
 obtain⟨e1,_⟩:=h6 j vs[j] _ (kL jl) hj;have:=zb5 hv (hs _<|List.getElem_mem jl) e1
 exact hn (this▸List.getElem_mem jl)
def z9w(X:Cx):TE:=fun _ H Q=>∀p o,H p=none->CD X.prog X.w H p o []->Q (.ref p) (upd H p<|FzN p o)
def z6c{X:Cx}{pos:Pos}:PE X (.Dict [] [] pos) (z9w X):=fun vY s σ H Q I h=>
 wpAny_Dict_empty ⟨.ref s.heap.objs.size,_,I.laid (a:=s.heap.objs.size) (o:=FzN s.heap.objs.size {cls:=.type "dict",data:=.dict #[]}) (t':=s.toks) (fun _ _ q=>vb _ q) (kg _)<|z7D<|vg _ rfl,rfl,
  h _ _ (I.hok.fresh<|kg _) ⟨Ai.mpr<|Ne.symm<|vn I.big,vj _,fun _ hv=>(by cases hv),List.nodup_nil,⟨rfl,rfl,rfl⟩,[],#[],0,rfl,fun i v x e=>(by simp at e),rfl,rfl,List.nodup_nil⟩⟩
def z9x(X:Cx)(td ty:TE):TE:=fun σ H Q=>td σ H fun x H1=>ty σ H1 fun y H2=>∃a o vs b i v,x=.ref a/\H2 a=some (FzN a o)/\CD X.prog X.w H2 a o vs/\y=.ref b/\H2 b=some (.tup<|ckey v)/\vs[i]?=some v/\Q (.int (i:Nat)) H2
def z6d{X:Cx}{o i:Expr}{pos:Pos}{td ty:TE}(hu:X.A.units+1 < cLine)(ho:PE X o td)(hi:PE X i ty)(hs:NoSl i):PE X (.Subscript o i pos) (z9x X td ty):=by
 intro vY s σ H Q I h;refine z1B PySem.F.slot_dict_getitem.lookup hs (thn (ho vY s σ H _ I h) fun u s1 ⟨x,H1,I1,rx,q1⟩=>thn (hi vY s1 σ H1 _ I1 q1) fun iv s2 zz=>?_);obtain⟨y,H2,I2,ry,a,ob,vs,b,j,v,ex,ha,c,ey,hb,hj,q2⟩:=zz;subst ex ey;obtain rfl:u=Value.ref a:=rx;obtain rfl:iv=Value.ref b:=ry;obtain⟨xs,dd,hl,h6⟩:=c.dict I2.hok ha;have hv:=c.sc v (kH hj);obtain⟨_,_,_,_,_,_,_,_,hn⟩:=id dd;obtain⟨p,hp,rp⟩:=z9f hl hn h6 hj;exact⟨dd.typeIs,wpAny_getItem_heap (tupleKind_room_in1 hu) (z8w I2.hok hv hb) dd hp ⟨.int (j:Nat),H2,I2.tok _,rp,q2⟩⟩
def z3q{prog:Program}{w:World}{K:Type}[DecidableEq K](knd:HeapKind prog w K){d:Aa}(hd:(d == sysModules)=false):
  MeetsIn prog w (Builtin.«dict.__len__» ⟨[.ref d],[]⟩) (fun _ R s=>∃xs,s.heap.DictOfH knd d xs/\R (.ok<|.ret<|.int xs.length s.toks) {s with toks:=s.toks+1}):=
 .of_wp fun A R s ⟨xs,hm,h⟩=>by
  obtain⟨o,es,ep,ho,hc,hdat,hk,hp,hn⟩:=hm;show wpAny _ _ (dictSize d >>= _) _ _ s;unfold dictSize;refine va (va<|wpAny_dictEntries ho hdat<|ve ?_);show wpAny _ _ (Builtin.Dict.pendingCount d >>= _) _ _ s;refine va (wpAny_pendingCount_other hd ?_);refine wpAny_ret_mkInt ?_;rw[Nat.add_zero,size_of_entries hk];exact h
def z5B{prog:Program}{w:World}{K:Type}[DecidableEq K]{knd:HeapKind prog w K}{A:Around}{E:Ab->Ac->Prop}{s:Ac}{d:Aa}{xs:List (K × Aa × Ab)}{Q:Ab->Ac->Prop}(hd:(d == sysModules)=false)(hm:s.heap.DictOfH knd d xs)(hfit:xs.length<=1000)(h:Q (.int xs.length (s.toks+1)) {s with toks:=s.toks+1+1}):wpAny (model prog w) A (call (.builtin "len") [.ref d]) Q E s:=by
 refine Calls.call_function_entry kind_len plain_len entry_len (args_len1 _) ?_;unfold Builtin.«len»;refine va (m:=oneArg "len" _) (ve ?_);refine va (m:=callSpecial? (.ref d) (Str.ofString "__len__")) (wpAny_callSpecial?_slot (name:=Str.ofString "__len__") hm.typeIs F.slot_dict_len
  (call_meetsIn F.slot_dict_len hm.typeIs F.entry_dict_len (F.args_dict_len_1 _) (z3q knd hd) ⟨xs,hm,?_⟩))
 show wpAny _ _ _ _ _ {s with toks:=s.toks+1};refine va (wpAny_holding<|ve ?_);refine va (wpAny_letGo ?_);show wpAny _ _ (if ((xs.length:Nat):Int) < 0 then _ else _) _ _ _;rw[ky<|by lia];show wpAny _ _ (if ((xs.length:Nat):Int)≥2 ^ 63 then _ else _) _ _ _;rw[ky<|by lia];exact va (wpAny_mkInt<|ve ⟨_,rfl,h⟩)
def z5D{X:Cx}:Zs X (.builtin "len") (fun xs H Q=>∃a o vs,xs=[V.ref a]/\H a=some (FzN a o)/\CD X.prog X.w H a o vs/\Q (.int vs.length) H):=by
 intro vY s σ H xs us Q I r h;obtain⟨a,o,vs,rfl,ha,c,q⟩:=h;obtain⟨u,rfl,ru⟩:=Js r;cases ru;obtain⟨ys,dd,hl,h6⟩:=c.dict I.hok ha;have:=c.len
 refine z5B c.sys dd (by lia) ?_;rw[hl];exact⟨.int vs.length,H,I.tok _,⟨_,rfl⟩,q⟩
def z81{prog:Program}{w:World}{K:Type}[DecidableEq K]{knd:HeapKind prog w K}{A:Around}{E:Ab->Ac->Prop}{s:Ac}{d a:Aa}{xs:List (K × Aa × Ab)}{k:K}{v:Ab}{Q:Ab->Ac->Prop}(hu:knd.room A)(hkey:knd.is s.heap k a)(hm:s.heap.DictOfH knd d xs)(h1:∀p,atKey xs k=some p->Q p.2 {s with toks:=s.toks+knd.draws k})(h2:atKey xs k=none->∀h',h'.DictOfH knd d (xs++[(k,a,v)])->Heap.SameBut d s.heap h'->Q v {s with heap:=h',toks:=s.toks+knd.draws k})(hsz:xs.length<=sizeLine):wpAny (model prog w) A (dictSetDefault d (.ref a) v) Q E s:=by
 obtain⟨o,es,ep,ho,hc,hd,he,his,hn⟩:=hm;unfold dictSetDefault
 try with_reducible refine wpAny_holding ?_
 refine va (knd.pyHash hu hkey ?_);refine va (wpAny_dictFind_heap (s:={s with toks:=s.toks+knd.draws k}) hu hkey ho hd he his hn ?_ ?_)
 ·intro hno;have hnot:k∉xs.map (·.1):=not_mem_keys_of_get hno;refine va (wpAny_rule (va (wpAny_updateDictKeys (hz:=by have e:=size_of_entries he;lia) (s:={s with toks:=s.toks+knd.draws k}) ho hd (ve (h2 (atKey_none_of_get hno) _ ⟨_,_,ep+1,Heap.get?_update_self _ ho<|Obj.isFreed_of_dict<|Obj.data_mapDictKeys hd _,
   hc.mapDictKeys _,Obj.data_mapDictKeys hd _,?_,?_,?_⟩<|Heap.SameBut.update ..)))))
  ·simp[he,entryOfKey]
  ·intro x hx;rcases kS.mp hx with hx|hx
   ·exact knd.keeps (his x hx) ho hd (Heap.SameBut.update ..)
   ·simp only[ko] at hx;subst hx;exact knd.keeps hkey ho hd (Heap.SameBut.update ..)
  ·rw[kK,Aq];refine⟨hn,by simp,?_⟩;intro x hx y hy;simp only[kU,List.map_nil,ko] at hy;subst hy;exact fun e=>hnot (e▸hx)
 ·intro j p hj;refine va (wpAny_dictEntries (s:={s with toks:=s.toks+knd.draws k}) ho hd ?_);rw[entry_at he j,hj];exact va (wpAny_rule<|ve<|h1 p<|atKey_of_get hn hj)
def z0l{prog:Program}{w:World}{K:Type}[DecidableEq K](knd:HeapKind prog w K){k:K}{a d:Aa}(hd:(d == sysModules)=false)(dflt:Ab):
  MeetsIn prog w (Builtin.«dict.setdefault» ⟨[.ref d,.ref a,dflt],[]⟩) (fun A R s=>∃xs,knd.room A.in1/\knd.is s.heap k a/\s.heap.DictOfH knd d xs/\xs.length<=sizeLine/\
   (∀p,atKey xs k=some p->R (.ok<|.ret p.2) {s with toks:=s.toks+knd.draws k})/\
   (atKey xs k=none->∀h',h'.DictOfH knd d (xs++[(k,a,dflt)])->Heap.SameBut d s.heap h'->R (.ok<|.ret dflt) {s with heap:=h',toks:=s.toks+knd.draws k})):=
 .of_wp fun A R s ⟨xs,hu,hkey,hm,hz,h1,h2⟩=>by
  unfold Builtin.«dict.setdefault»;refine va ?_;unfold Builtin.Dict.keyAndDefault;refine va (wpAny_notOrdered_dict hm.typeIs ?_);show wpAny _ _ (pure (d,Value.ref a,some dflt)) _ _ s;refine ve ?_;show wpAny _ _ (if (d == sysModules)=true then _ else (dictSetDefault d (.ref a) dflt >>= _)) _ _ s;rw[ky<|by rw[hd];exact ke];exact va (z81 hu hkey hm (fun p hp=>ve ⟨p.2,rfl,h1 p hp⟩) (fun hn h' hm' hs'=>ve ⟨dflt,rfl,h2 hn h' hm' hs'⟩) hz)
section
variable {X:Cx}
def z5R(X:Cx)(td ty tx:TE):TE:=fun σ H Q=>td σ H fun x H1=>∃a o vs,x=.ref a/\H1 a=some (FzN a o)/\CD X.prog X.w H1 a o vs/\ty σ H1 fun y H2=>tx σ H2 fun z H3=>∃o b v vs,H3 a=some (FzN a o)/\CD X.prog X.w H3 a o vs/\y=.ref b/\H3 b=some (.tup<|ckey v)/\ScP v/\z=.int vs.length/\vs.length < 1000/\
 ((∃i:Nat,vs[i]?=some v/\Q (.int i) H3)\/(v∉vs/\∀o',CD X.prog X.w (upd H3 a<|FzN a o') a o' (vs++[v])->Q z (upd H3 a<|FzN a o')))
def z3h{o e f:Expr}{apos cpos:Pos}{td ty tx:TE}(hu:X.A.units+1 < cLine)(ho:PE X o td)(he:PE X e ty)(hf:PE X f tx)(m:M2 X o "setdefault" apos e f cpos):PE X (.Call (.Attribute o "setdefault" apos) [e,f] [] cpos) (z5R X td ty tx):=by
 intro vY s σ H Q I h;refine wpAny_Call_method m.base m.few m.line PySem.F.plainAttrs_dict PySem.F.slot_dict_setdefault PySem.F.type_dict_setdefault (thn (ho vY s σ H _ I h) fun u s1 zz=>?_);obtain⟨x,H1,I1,rx,a,o0,vs0,ex,ha0,c0,q1⟩:=zz;subst ex;obtain rfl:u=Value.ref a:=rx;obtain⟨_,dd0,_,_⟩:=c0.dict I1.hok ha0;have ho0:=z1f I1.hok ha0;refine⟨dd0.typeIs,fun b q=>?_,?_⟩
 ·cases q;exact⟨o0,ho0,c0.ex.2.1⟩
 rw[m.trees];refine vF rfl (Calls.evalArgs_plain (vN (thn (he vY s1 σ H1 _ I1 q1) fun iv s2 ⟨y,H2,I2,ry,q2⟩=>
  vN (thn (hf vY s2 σ H2 _ I2 q2) fun fv s3 ⟨z,H3,I3,rz,o1,b,v,vs,ha,c,ey,hb,hv,ez,hlt,q3⟩=>Calls.spliced_nil ?_))))
 subst ey ez;obtain rfl:iv=Value.ref b:=ry;obtain⟨xs,dd,hl,h6⟩:=c.dict I3.hok ha;have hn:(xs.map (·.1)).Nodup:=by obtain⟨_,_,_,_,_,_,_,_,hn⟩:=id dd;exact hn
 have hargs:argsOk "dict.setdefault" ⟨[.ref a,.ref b,fv],[]⟩:=PySem.F.args_dict_setdefault_3 _ _ _;show wpAny (model X.prog X.w) X.A (call (.builtin "dict.setdefault") [.ref a,.ref b,fv]) _ _ _;refine call_meetsIn PySem.F.slot_dict_setdefault dd.typeIs PySem.F.entry_dict_setdefault hargs (z0l (tupleKind<|Qt X.prog X.w) (k:=ck v) c.sys fv) ⟨xs,?_,z8w I3.hok hv hb,dd,by rw[hl,sizeLine_eq];lia,fun p hp=>?_,fun hno h' dd' sb=>?_⟩
 ·exact tupleKind_room_in1 (knd:=Qt X.prog X.w) hu
 ·rcases q3 with ⟨i,hi,q3⟩|⟨hnv,_⟩
  ·obtain⟨p',hp',rp⟩:=z9f hl hn h6 hi;rw[hp] at hp';cases hp';exact⟨.int i,H3,I3.tok _,rp,q3⟩
  ·rw[zc3 hl c.sc h6 hv hnv] at hp;cases hp
 ·rcases q3 with ⟨i,hi,_⟩|⟨hnv,q3⟩
  ·obtain⟨p',hp',_⟩:=z9f hl hn h6 hi;rw[hno] at hp';cases hp'
  ·obtain⟨o',es',ep',e1,e2,e3,e4,e5,e6⟩:=id dd';refine⟨_,_,Jk I3 (ob:=FzN a o') (by rw[ha];exact trivial) sb ⟨o',e1⟩<|z7D e1,rz,q3 o' ?_⟩;have nba:∀c ys,H3 c=some (.tup ys)->(upd H3 a<|FzN a o') c=some (.tup ys):=fun c ys e=>by rw[zg<|jI e ha nofun];exact e
   refine⟨c.sys,by rw[km];show vs.length+1<=1000;lia,fun x hx=>?_,?_,e2,xs++[(ck v,b,fv)],es',ep',by rw[km,km,hl];rfl,fun i x p e1 e2=>?_,e3,e4,e6⟩
   ·rcases kS.mp hx with hx|hx
    ·exact c.sc x hx
    ·rw[ko.mp hx];exact hv
   ·rw[Aq];refine⟨c.nd,by simp,fun x hx y hy=>?_⟩;rw[ko.mp hy];exact fun e=>hnv (e▸hx)
   ·by_cases hi:i < vs.length
    ·rw[yg hi] at e1;rw[yg<|by rw[hl];exact hi] at e2;obtain⟨g1,g2,g3⟩:=h6 i x p e1 e2;exact⟨g1,nba _ _ g2,g3⟩
    ·have il:i < (vs++[v]).length:=(kh.mp e1).1;have ie:i=vs.length:=by rw[km] at il;have:i < vs.length+1:=il;lia
     subst ie;rw[yh<|kg _,Nat.sub_self] at e1;rw[<-hl,yh<|kg _,Nat.sub_self] at e2;cases e1;cases e2;exact⟨rfl,nba _ _ hb,rz⟩
end
end L2
namespace My
open L2
variable {P:Program}{w:World}{K:ku}{mg:Str->Option Ab}{base:Heap}
noncomputable def nubA{α:Type}[DecidableEq α](acc:List α)(x:α):List α:=if x∈acc then acc else acc++[x]
noncomputable def nub{α:Type}[DecidableEq α](l:List α):List α:=l.foldl nubA []
section
variable {α:Type}[DecidableEq α]
def z6p(acc:List α)(x:α):(nubA acc x).length<=acc.length+1:=by
 unfold nubA;split
 ·lia
 ·rw[km];exact kg _
def z8l{acc:List α}(h:acc.Nodup)(x:α):(nubA acc x).Nodup:=by
 unfold nubA;split
 ·exact h
 ·rename_i c
  rw[Aq];refine⟨h,by simp,fun a ha b hb=>?_⟩;rw[ko.mp hb];exact fun e=>c (e▸ha)
def z6u{acc:List α}{x y:α}:y∈nubA acc x↔y∈acc\/y=x:=by
 unfold nubA;split
 ·rename_i c
  exact⟨.inl,fun h=>h.elim id fun e=>e▸c⟩
 ·rw[kS,ko]
def z2D(l:List α)(x:α):nub (l++[x])=nubA (nub l) x:=by unfold nub;rw[List.foldl_append];rfl
def z2O{y:α}:∀(l acc:List α),y∈l.foldl nubA acc↔y∈acc\/y∈l
|[],acc=>by simp
|x::l,acc=>by
  rw[List.foldl_cons,z2O l,z6u,kE,or_assoc]
def Z3{l:List α}{y:α}:y∈nub l↔y∈l:=by
 unfold nub;rw[z2O];simp
def z57:∀(l acc:List α),acc.Nodup->(l.foldl nubA acc).Nodup
|[],acc,h=>h
|x::l,acc,h=>by rw[List.foldl_cons];exact z57 l _ (z8l h x)
def zad(l:List α):(nub l).Nodup:=z57 l [] List.nodup_nil
def z2P:∀(l acc:List α),(l.foldl nubA acc).length<=acc.length+l.length
|[],acc=>by simp
|x::l,acc=>by
  rw[List.foldl_cons];have:=z2P l (nubA acc x)
  have:=z6p acc x
  rw[kP];lia
def jE(l:List α):(nub l).length<=l.length:=by
 have:=z2P l []
 show (l.foldl nubA []).length<=_;simpa using this
def zaA{l:List α}(hn:l.Nodup){i:Nat}{x:α}(h:l[i]?=some x):l.idxOf x=i:=by
 obtain⟨hl,rfl⟩:=kh.mp h;exact List.Nodup.idxOf_getElem hn i hl
def z1d{l:List α}{x:α}(h:x∈l):l[l.idxOf x]?=some x:=by
 rw[kL<|List.idxOf_lt_length_iff.mpr h];congr 1
 exact List.getElem_idxOf _
end
noncomputable def opsU:List Str:=["more","push","load","quick","store","clear","drop","copy","swap","add","sub","mul","div","rest","less","same","neg","not","tell","jump","iftrue","iffalse","ortrue","orfalse","return","raise"]
noncomputable def qv(rs:List Row)(s:Str):List V:=(rs.filter fun r=>decide (zx r.op=some s)).map (·.arg)
noncomputable def fstU(S:List Nat)(i:Nat):Nat:=(S.take i).sum
noncomputable def jm(rs:List Row)(S:List Nat)(m:Int):Nat:=fstU S ((zA rs m).getD 0)
noncomputable def argI:V->Int
|.int i=>i
|_=>0
noncomputable def numR(cs ns:List V)(go:Int->Nat)(r:Row):Nat:=
 if zx r.op=some ("value":Str) then cs.idxOf r.arg else if zx r.op=some ("name":Str) then ns.idxOf r.arg else if zx r.op=some ("mark":Str) then go (argI r.arg) else (argI r.arg).toNat
noncomputable def csOf(rs:List Row):List V:=nub (qv rs "value")
noncomputable def nsOf(rs:List Row):List V:=nub (qv rs "name")
noncomputable def numF(rs:List Row)(S:List Nat):List (Option Nat):=rs.map fun r=>if inT r.op opsU=true then some (numR (csOf rs) (nsOf rs) (jm rs S) r) else none
def qE(rs:List Row)(s:Str):(qv rs s).length<=rs.length:=by
 unfold qv;rw[kl];exact List.length_filter_le _ _
def z8B{S T:List Nat}(h:Le S T)(i:Nat):fstU S i<=fstU T i:=h.sum_take i
def z2N{S:List Nat}{i:Nat}:fstU S i<=S.sum:=by
 unfold fstU;have:=List.take_append_drop i S
 calc (S.take i).sum<=(S.take i).sum+(S.drop i).sum:=vL _ _
  _=S.sum:=by rw[<-List.sum_append,this]
def Jp{rs:List Row}{r:Row}(h:r∈rs){s:Str}(hs:zx r.op=some s):r.arg∈qv rs s:=
 yf.mpr ⟨r,Al.mpr ⟨h,kj hs⟩,rfl⟩
def Qn{s:Str}{x:V}(h:qk s x=true)(h1:s≠"value")(h2:s≠"name")(h3:s≠"mark"):0<=argI x/\argI x<=9:=by
 unfold qk at h;rw[ky h1,ky h2] at h;split at h
 ·unfold Qo at h;cases x <;> simp[zW,argI] at h ⊢
  lia
 ·split at h
  ·unfold Zm at h;cases x <;> simp[zW,argI] at h ⊢
   lia
  ·unfold z3j at h;have:x=.non:=kD h
   subst this;exact⟨Int.le_refl _,by decide⟩
def Qj{rs:List Row}(hc:Code rs):JH (numF rs) rs.length:=by
 have hi:=hc.hi;refine⟨fun S _=>by unfold numF;rw[kl],fun S T i _ _ h=>?_,fun S T i x y hl _ h1 h2=>?_,fun S hS h3 x hx=>?_⟩
 ·unfold numF at h ⊢
  rw[vh] at h ⊢
  obtain⟨r,hr,e⟩:=Ad.mp h;rw[hr];show some (if _ then _ else _)=_;split at e
  ·cases e
  ·rename_i c
   rw[ky c]
 ·unfold numF at h1 h2;rw[vh] at h1 h2;obtain⟨r,hr,e⟩:=Ad.mp h1;rw[hr] at h2;have h2:=kC h2;split at e
  ·rename_i c
   dsimp only at h2;rw[kz c] at h2;have e:=kC e;have h2:=kC h2;subst e h2;unfold numR;split
   ·exact kg _
   ·split
    ·exact kg _
    ·split
     ·exact z8B hl _
     ·exact kg _
  ·cases e
 ·unfold numF at hx;obtain⟨r,hr,e⟩:=yf.mp hx;split at e
  ·have e:=kC e;subst e;unfold numR;split
   ·rename_i c
    have h1:=List.idxOf_lt_length_iff.mpr (Z3.mpr<|Jp hr c);have h2:=jE (qv rs "value");have h3:=qE rs "value";unfold csOf;lia
   ·split
    ·rename_i c
     have h1:=List.idxOf_lt_length_iff.mpr (Z3.mpr<|Jp hr c);have h2:=jE (qv rs "name");have h3:=qE rs "name";unfold nsOf;lia
    ·split
     ·have h1:=@z2N S ((zA rs<|argI r.arg).getD 0);have h2:=ZK h3;rw[hS] at h2;unfold jm;lia
     ·rename_i c1 c2 c3
      have hro:=hc.ok r hr;cases hs:zx r.op with
     |none=>
       have:rowV r.op r.arg (.int r.line)=true:=hro
       unfold rowV at this;rw[hs] at this;cases this
     |some s=>
       have:=Qn (z5i (op:=r.op) (arg:=r.arg) (ln:=r.line) hro hs) (fun z=>c1<|by rw[hs,z]) (fun z=>c2<|by rw[hs,z]) (fun z=>c3<|by rw[hs,z])
       lia
  ·cases e
end My
namespace L2
def jD{α β:Type}{R:α->β->Prop}:∀{as:List α}{bs:List β},as.length=bs.length->(∀(j:Nat) a b,as[j]?=some a->bs[j]?=some b->R a b)->Paired R as bs
|[],[],_,_=>.nil
|[],_::_,h,_=>by cases h
|_::_,[],h,_=>by cases h
|a::as,b::bs,h,g=>.cons (g 0 a b rfl rfl) (jD (by simpa using h) fun j x y hx hy=>g (j+1) x y (by simpa using hx)<|by simpa using hy)
def qV{α β:Type}{R:α->β->Prop}:∀{as:List α}{bs:List β}{j:Nat}{b:β},Paired R as bs->bs[j]?=some b->∃a,as[j]?=some a/\R a b
|_,_,_,_,.nil,e=>by simp at e
|_,_,0,_,.cons h _,e=>by
  simp at e
  subst e;exact⟨_,rfl,h⟩
|_,_,j+1,b,.cons _ t,e=>by
  obtain⟨x,h1,h2⟩:=qV (j:=j) t (by simpa using e);exact⟨x,by simpa using h1,h2⟩
def z37{P:Program}{w:World}{K:ku}{tg:Expr}(a it:Aa)(o:Obj){vs:List V}(hc0:∀H,H a=some (FzN a o)->CD P w H a o vs\/True)(xs:List (List KeyP × Aa × Ab))(es:Array DictEntry)(ep:Nat)(hd:o.data=.dict es ep)(he:es.toList=xs.map (entryOfKey<|tupleKind<|Qt P w))(hl:xs.length=vs.length)(Hk:Hp->Prop)(hH:∀H,Hk H->∀(i:Nat) v x,vs[i]?=some v->xs[i]?=some x->H x.2.1=some (.tup<|ckey v)):
  Turn P w K tg ⟨fun i H=>H a=some (FzN a o)/\Hk H/\i < vs.length,fun i H x H'=>H'=H/\∃b v,x=.ref b/\vs[i]?=some v/\H b=some (.tup<|ckey v),fun i H=>H a=some (FzN a o)/\vs.length<=i⟩ [it] it (fun i h=>h.IsKeyIter it a i es.size ep) where
 mem:=by simp
 obj:=fun i h st b hb=>by
  have z:b=it:=by simpa using hb
  subst z;obtain⟨ob,q,c,dd⟩:=st;exact⟨_,q,fun v y=>by rw[dd] at y;cases y⟩
 keep:=fun i h h' st k=>let ⟨ob,q,c,dd⟩:=st;⟨ob,k it (by simp) _ q,c,dd⟩
 item:=by
  intro X hP hw hK hc i vY s σ H E I hf st hg;subst hP hw hK;obtain⟨hq,hk,hi⟩:=hg;have ho:=z1f I.hok hq;have hxl:i < xs.length:=by lia
  have hsz:es.size=xs.length:=size_of_entries he;have hlt:i < es.size:=by lia
  have hb:=hH H hk i vs[i] xs[i] (kL hi) (kL hxl);have ek:es[i].key=.ref xs[i].2.1:=by
   have e1:es.toList[i]?=some (entryOfKey (tupleKind<|Qt X.prog X.w) xs[i]):=by rw[he,vh,kL hxl];rfl
   have e2:es.toList[i]?=some es[i]:=by simp[hlt]
   rw[e2] at e1;rw[kC e1];rfl
  obtain⟨f0,f1,f2,f3,f4,f5⟩:=hf it (by simp);refine z4Q st ho hd hlt fun h' st' sb=>?_
  have I1:Inv X vY σ H {s with heap:=h'}:=I.turned (t':=s.toks) (fun c oc hc e=>(sb.2 c hc).trans e) f0 f1 f3 f4 f5;obtain⟨oi,e,c,dd⟩:=id st';rw[ek];exact⟨.ref xs[i].2.1,rfl,z6K (s:={s with heap:=h'}) e c dd (by decide) ⟨.ref xs[i].2.1,H,I1,rfl,⟨rfl,_,vs[i],rfl,kL hi,hb⟩,st',fun c hc=>(hf c hc).1⟩⟩
 done:=by
  intro X hP hw hK hc i vY s σ H E I hf st hg;subst hP hw hK;obtain⟨hq,hi⟩:=hg;have ho:=z1f I.hok hq;have hsz:es.size=xs.length:=size_of_entries he;obtain⟨f0,f1,f2,f3,f4,f5⟩:=hf it (by simp);exact z6B (I.ok.hd hc) st ho hd (by lia) fun h' eb=>⟨rfl,I.turned (t':=s.toks) (fun b o hb e=>eb b o hb e) f0 f1 f3 f4 f5⟩
 self:=fun _ _ _ _ _ st h=>Ju st h
noncomputable def Itc'(a:Aa)(o:Obj)(vs:List V)(bs:List Aa):It:=
 ⟨fun i H=>H a=some (FzN a o)/\Paired (fun b v=>H b=some (.tup<|ckey v)) bs vs/\i < vs.length,fun i H x H'=>H'=H/\∃b v,x=.ref b/\vs[i]?=some v/\H b=some (.tup<|ckey v),fun i H=>H a=some (FzN a o)/\vs.length<=i⟩
def zaD(X:Cx)(td:TE):TI:=fun σ H R=>td σ H fun x H1=>∃a o vs,x=.ref a/\H1 a=some (FzN a o)/\CD X.prog X.w H1 a o vs/\∀bs,Paired (fun b v=>H1 b=some (.tup<|ckey v)) bs vs->R (Itc' a o vs bs) H1
def z68{X:Cx}{tg l:Expr}{td:TE}(hl:PE X l td):PI X tg l (zaD X td):=by
 intro vY s σ H R I h;refine thn (hl vY s σ H _ I h) fun v s1 zz=>?_
 obtain⟨x,H1,I1,r1,q1⟩:=zz;obtain⟨a,ob,vs,e,ha,c,q⟩:=q1;subst e;cases r1;obtain⟨hsy,_,_,_,hex,xs,es,ep,hxl,h6,hdat,he,hn⟩:=c;have hob:=z1f I1.hok ha;refine z3x hsy hob hex hdat ?_;have I2:Inv X vY σ H1 {s1 with heap:=s1.heap.push {cls:=.type "dict_keyiterator",data:=.fields #[.ref a,.int 0 0,.int es.size 0,.int ep 0]} }:=I1.kept (t':=s1.toks) fun b o e=>vb _ e
 have hp:Paired (fun b v=>H1 b=some (.tup<|ckey v)) (xs.map fun x:List KeyP × Aa × Ab=>x.2.1) vs:=jD (by rw[kl,hxl]) fun j b v e1 e2=>by
  rw[vh] at e1;obtain⟨x,hx,rfl⟩:=Ad.mp e1;exact (h6 j v x e2 hx).2.1
 refine⟨s1.heap.objs.size,[s1.heap.objs.size],_,_,_,rfl,I2,z37 (vs:=vs) a _ ob (fun _ _=>.inr trivial) xs es ep hdat he hxl (fun H=>Paired (fun b v=>H b=some (.tup<|ckey v)) (xs.map fun x:List KeyP × Aa × Ab=>x.2.1) vs) (fun H hk i v x e1 e2=>?_),⟨_,vg _ rfl,rfl,rfl⟩,fun b hb=>?_,q _ hp⟩
 ·obtain⟨b,hb,hv⟩:=qV hk e1;rw[vh,e2] at hb;cases hb;exact hv
 ·have e:b=s1.heap.objs.size:=by simpa using hb
  subst e;exact I1.fpOk (kg _) (I1.hok.fresh<|kg s1.heap.objs.size)
end L2
namespace My
open L2
variable {P:Program}{w:World}{K:ku}{mg:Str->Option Ab}{base:Heap}
def zbC{α β:Type}[BEq α][LawfulBEq α]{x:α}{l:List (α × β)}(h:x∈l.map Prod.fst):∃c,l.lookup x=some c:=by
 induction l with
|nil=>cases h
|cons p t ih=>
  obtain⟨a,b⟩:=p;by_cases e:x=a
  ·subst e;exact⟨b,by simp[List.lookup]⟩
  ·obtain⟨c,hc⟩:=ih (by simpa [e] using h);exact⟨c,by simp[List.lookup,Ai.mpr e,hc]⟩
def zT.mk3{X:Cx}{N:List Str}{nt:Nat}{ix:List Nat}{scope:Scope}{cl:List (Str × Aa)}{nm:List (Str × NameKind)}{ks:List Str}(clos:closureFor scope X.env=pure cl)(rel:(relabel scope X.env).names=nm)(h1:(∀y∈scope.names,y.2≠.cell)/\∀y∈scope.names,y.2=.local->scope.names.lookup y.1=some .local)(kind:scope.kind=.function)(hk:cl.map Prod.fst=ks)(sub:cl.map (fun p=>X.env.cells.lookup p.1)=cl.map fun p=>some p.2)(h2:∀y∈nm,(y.2=.cell\/y.2=.free)->y.1∈ks)(len:N.length=nt+ix.length)(f1:ix.map (fun i=>X.N[i]?)=(N.drop nt).map some)(f2:(N.drop nt).map (fun x=>(X.env.kindOf x,nm.lookup x))=(N.drop nt).map fun _=>(some .cell,some .cell))(f3:(N.drop nt).map (fun x=>X.env.cells.lookup x)=(N.drop nt).map fun x=>cl.lookup x):zT X N nt ix scope cl where
 clos:=clos
 nocell:=h1.1
 kind:=kind
 names:=h1.2
 sub:=fun x c e=>by
  have:=List.map_inj_left.mp sub _ (vc e)
  exact this
 has:=fun x h=>by
  rw[rel] at h;refine zbC (hk▸?_);rcases h with h|h
  ·exact h2 _ (vc h) (.inl rfl)
  ·exact h2 _ (vc h) (.inr rfl)
 len:=len
 free:=fun j x e=>by
  have hm:(N.drop nt)[j]?=some x:=by rw[List.getElem?_drop];exact e
  have hx:=kH hm;have g:=vI (·[j]?) f1;simp only[vh,hm,Option.map_some] at g;obtain⟨i,hi,g⟩:=Ad.mp g;have k:=List.map_inj_left.mp f2 _ hx;injection k with k1 k2
  refine⟨i,hi,g,k1,by rw[rel];exact k2,fun c h=>?_⟩;rw[<-List.map_inj_left.mp f3 _ hx];exact h
noncomputable def zw(ns:List Nat):List V:=ns.map fun n=>V.int (Int.ofNat n)
def z11(a b:List Nat):zw (a++b)=zw a++zw b:=kK ..
def qb(a:List Nat):(zw a).length=a.length:=kl ..
def z0j{ns:List Nat}{i:Nat}{x:V}(h:(zw ns)[i]?=some x):∃n,ns[i]?=some n/\x=.int (Int.ofNat n):=by
 unfold zw at h;rw[vh] at h;obtain⟨n,hn,rfl⟩:=Ad.mp h;exact⟨n,hn,rfl⟩
structure GloU(mg:Str->Option Ab):Prop where
 sum:mg "sum"=none
 zip:mg "zip"=none
 depth:∃u,mg "MOST_DEPTH"=some u/\RelV (.int 999) u
 many:∃u,mg "MOST_MANY"=some u/\RelV (.int 9999) u
 base:∃u,mg "BASE"=some u/\RelV (.int 16) u
 more:∃u,mg "MORE"=some u/\RelV (.int 0) u
def Qa{J:It}{n:Nat}{g:TG}{te:TE}{Rr:Hp->Prop}{H:Hp}{l:Aa}{σ0:L2.St}(Sg:L2.St->Prop)(Y:Nat->V->Hp->Prop)(R:Nat->V->Hp->Prop)(hn:n<=1000)(hl:H l=none)(h0:Sg σ0)(hgo:∀i H2,i < n->Same H H2->J.go i H2)(hstop:∀H2,Same H H2->J.stop n H2)(hy:∀i H2 x H3,i < n->Same H H2->J.yld i H2 x H3->Same H2 H3/\Y i x H3)(hk:∀i v H1 H2,R i v H1->(∀b o,H1 b=some o->b≠l->H2 b=some o)->R i v H2)(hs:∀i x σ' H3 (A:V->L2.St->Hp->Prop),i < n->Same H H3->(∃ys,H3 l=some (.lst ys))->Y i x H3->Sg σ'->(∀v σ2 H6,Sg σ2->Same H3 H6->R i v H6->A v σ2 H6)->g x σ' H3 fun σ2 H4=>te σ2 H4 fun v H6=>A v σ2 H6)(hd:∀ys H2,Same H H2->H2 l=some (.lst ys)->ys.length=n->(∀(i:Nat) v,ys[i]?=some v->R i v H2)->Rr H2):
  ∃W:Nat->Nat->List V->L2.St->Hp->Prop,(∃m,W 0 m [] σ0<|upd H l<|.lst [])/\∀i m ys σ' H2,W i m ys σ' H2->
   (J.stop i H2/\Rr H2)\/(J.go i H2/\∀x H3,J.yld i H2 x H3->g x σ' H3 (cqS tAll te l W i m ys)):=by
 refine⟨fun i m ys σ H2=>m=n - i/\i<=n/\Sg σ/\Same H H2/\H2 l=some (.lst ys)/\ys.length=i/\∀(j:Nat) v,ys[j]?=some v->R j v H2,⟨n,rfl,vj _,h0,ze hl _,z7,rfl,fun j v e=>by simp at e⟩,?_⟩;rintro i m ys σ' H2 ⟨rfl,hi,hσ,s2,hl2,hlen,hR⟩;by_cases hlt:i < n
 ·refine .inr ⟨hgo i H2 hlt s2,fun x H3 y=>?_⟩;obtain⟨s3,hY⟩:=hy i H2 x H3 hlt s2 y;have s23:=s2.trans s3;have hl3:=s3 _ _ hl2;refine hs i x σ' H3 (fun v σ2 H6=>H6 l=some (.lst ys)/\ys.length < sizeLine/\∃m',m' < n - i/\(m'=n - (i+1)/\i+1<=n/\Sg σ2/\Same H (upd H6 l<|.lst (ys++[v]))/\(upd H6 l<|.lst (ys++[v])) l=some (.lst (ys++[v]))/\(ys++[v]).length=i+1/\∀(j:Nat) z,(ys++[v])[j]?=some z->R j z (upd H6 l<|.lst (ys++[v])))) hlt s23 ⟨_,hl3⟩ hY hσ (fun v σ2 H6 hσ2 s6 hRv=>?_);have hl6:=s6 _ _ hl3;have keep:∀b o,H6 b=some o->b≠l->(upd H6 l<|.lst (ys++[v])) b=some o:=fun b o e nb=>by rw[zg nb];exact e
  refine⟨hl6,zF (by lia),n - (i+1),by lia,rfl,hlt,hσ2,My.Same.upd (s23.trans s6) hl _,z7,by rw[km,hlen];rfl,fun j z e=>?_⟩;by_cases hj:j < ys.length
  ·rw[yg hj] at e;exact hk j z H2 _ (hR j z e) fun b o eb nb=>keep b o ((s3.trans s6) b o eb) nb
  ·have jl:j < (ys++[v]).length:=(kh.mp e).1;have je:j=ys.length:=by rw[km] at jl;have:j < ys.length+1:=jl;lia
   subst je;rw[yh<|kg _,Nat.sub_self] at e;cases e;rw[hlen];exact hk i _ H6 _ hRv keep
 ·have e:i=n:=by lia
  subst e;exact .inl ⟨hstop H2 s2,hd ys H2 s2 hl2 hlen hR⟩
def jy{J:It}{n:Nat}{g:TG}{te:TE}{Rr:Hp->Prop}{H:Hp}{l:Aa}{σ0:L2.St}(Sg:L2.St->Prop)(Y:Nat->V->Hp->Prop)(R:Nat->V->Hp->Prop)(hn:n<=1000)(hl:H l=none)(h0:Sg σ0)(hgo:∀i H2,i < n->Same H H2->J.go i H2)(hstop:∀H2,Same H H2->J.stop n H2)(hy:∀i H2 x H3,i < n->Same H H2->J.yld i H2 x H3->Same H2 H3/\Y i x H3)(hk:∀i v H1 H2,R i v H1->(∀b o,H1 b=some o->b≠l->H2 b=some o)->R i v H2)(hs:∀i x σ' H3 (A:V->L2.St->Hp->Prop),i < n->Same H H3->H3 l≠none->Y i x H3->Sg σ'->(∀v σ2 H6,Sg σ2->Same H3 H6->R i v H6->A v σ2 H6)->g x σ' H3 fun σ2 H4=>te σ2 H4 fun v H6=>A v σ2 H6)(hd:∀ys H2,Same H H2->H2 l=some (.lst ys)->ys.length=n->(∀(i:Nat) v,ys[i]?=some v->R i v H2)->Rr H2):
  ∃W:Nat->Nat->List V->L2.St->Hp->Prop,(∃m,W 0 m [] σ0<|upd H l<|.lst [])/\∀i m ys σ' H2,W i m ys σ' H2->
   (J.stop i H2/\Rr H2)\/(J.go i H2/\∀x H3,J.yld i H2 x H3->g x σ' H3 (cqS tAll te l W i m ys)):=
 Qa Sg Y R hn hl h0 hgo hstop hy hk (fun i x σ' H3 A hi s3 e=>hs i x σ' H3 A hi s3<|by obtain⟨ys,e⟩:=e;rw[e];exact nofun) hd
def Ze{K:ku}{H:Hp}{a:Aa}{xs:List V}(h:SqL K H a xs):(∀i H2,i < xs.length->Same H H2->(Itl K a).go i H2)/\(∀H2,Same H H2->(Itl K a).stop xs.length H2)/\∀i H2 x H3,i < xs.length->Same H H2->(Itl K a).yld i H2 x H3->Same H2 H3/\xs[i]?=some x:=
 ⟨fun i H2 hi s=>⟨xs,xs[i],s.seq h,kL hi⟩,fun H2 s=>⟨xs,s.seq h,kg _⟩,fun i H2 x H3 hi s y=>by obtain⟨rfl,y⟩:=y;exact⟨Same.refl _,y xs<|s.seq h⟩⟩
def z3T{K:ku}{H:Hp}{a:Aa}{xs:List V}(h:SqT K H a xs):(∀i H2,i < xs.length->Same H H2->(Itt K a).go i H2)/\(∀H2,Same H H2->(Itt K a).stop xs.length H2)/\∀i H2 x H3,i < xs.length->Same H H2->(Itt K a).yld i H2 x H3->Same H2 H3/\xs[i]?=some x:=
 ⟨fun i H2 hi s=>⟨xs,xs[i],jq s h,kL hi⟩,fun H2 s=>⟨xs,jq s h,kg _⟩,fun i H2 x H3 hi s y=>by obtain⟨rfl,y⟩:=y;exact⟨Same.refl _,y xs<|jq s h⟩⟩
def z2X{K:ku}{a l:Aa}{xs:List V}{te:TE}{Rr:Hp->Prop}{H:Hp}{rest:List (Option V)}(f:Nat->V)(hn:xs.length<=1000)(hl:H l=none)(hx:SqL K H a xs)(hs:∀i x H3 (A:V->Hp->Prop),xs[i]?=some x->Same H H3->(∀H6,Same H3 H6->A (f i) H6)->te (some x::rest) H3 A)(hd:∀H2,Same H H2->H2 l=some (.lst<|(List.range xs.length).map f)->Rr H2):
  ∃W:Nat->Nat->List V->L2.St->Hp->Prop,(∃m,W 0 m [] (none::rest)<|upd H l<|.lst [])/\∀i m ys σ' H2,W i m ys σ' H2->
   ((Itl K a).stop i H2/\Rr H2)\/((Itl K a).go i H2/\∀x H3,(Itl K a).yld i H2 x H3->Qm 0 x σ' H3 (cqS tAll te l W i m ys)):=by
 obtain⟨g1,g2,g3⟩:=Ze hx;refine jy (fun σ=>∃x:Option V,σ=x::rest) (fun i x _=>xs[i]?=some x) (fun i v _=>v=f i) hn hl ⟨none,rfl⟩ g1 g2 g3 (fun i v H1 H2 h _=>h) (fun i x σ' H3 A hi s3 _ hY hσ k=>?_) (fun ys H2 s2 h2 hlen hR=>hd H2 s2 ?_)
 ·obtain⟨b,rfl⟩:=hσ;exact hs i x H3 (fun v H6=>A v (some x::rest) H6) hY s3 fun H6 s6=>k _ _ H6 ⟨_,rfl⟩ s6 rfl
 ·rw[h2];congr 2
  refine Af fun i=>?_
  rw[vh];by_cases hi:i < ys.length
  ·rw[kL hi,An<|by lia];show _=some (f i);rw[hR i _<|kL hi]
  ·rw[vp (by lia),vp<|by rw[Am];lia];rfl
def zaG{i:Nat}{x:V}{σ:L2.St}{H:Hp}{Q:L2.St->Hp->Prop}(h:Q (σ.set i<|some x) H):Qm i x σ H Q:=h
def Zf{X:Cx}{K:ku}(hK:X.K=K):IxR X (rIxT K):=by subst hK;exact qg
def z0C{X:Cx}{K:ku}(hK:X.K=K):Zs X (.builtin "len") (fun xs H Q=>∃p ys,xs=[.ref p]/\(SqL K H p ys\/SqT K H p ys)/\Q (.int ys.length) H):=by subst hK;exact zr
section
inductive spVK(vs:List V)(H:Hp)(Q:VK)(E:XK):Prop
|mk (v:_):vs=[v]->ScP v->(∀t H',Same H H'->H t=none->H' t=some (.tup<|ckey v)->Q (.ref t) H')->spVK vs H Q E
def sc79:zj ["value"] ["value"] (zc<|top 79):=fsM
def z8D(D:zn K mg "value_key" (top 79))(G:Glo mg):FN P w K mg base 1 "value_key" ["value"] spVK:=by
 refine FN.o D sc79 ?_;rintro _ _ _ _ _ H _ Q _ _ ⟨v,rfl,⟨k,hk⟩,q⟩;refine⟨_,z8<|zl<|zY<|pa2 (zq zZ rfl G.isinstance zD<|pa2 (pv 0)<|ZS "bool" rfl G.bool Jo)<|pv 0,?_⟩
 symm
 have go:∀b,isBl v=b->(∀p,H p=none->Q (.ref p) (upd H p<|.tup [.bl b,v])):=fun b e p hp=>q p _ (ze hp _) hp (by rw[z7];unfold ckey;rw[e])
 cases v <;> try cases hk
 ·exact⟨_,"bool",_,false,rfl,.non,rfl,vX,go false rfl⟩
 ·exact⟨_,"bool",_,true,rfl,.bl _,rfl,vX,go true rfl⟩
 ·exact⟨_,"bool",_,false,rfl,.int _,rfl,vX,go false rfl⟩
 ·exact⟨_,"bool",_,false,rfl,.str _,rfl,vX,go false rfl⟩
def KOps(K:ku)(mg:Str->Option Ab):Prop:=∃a,mg "OPS"=some (.ref a)/\KTup K a (opsU.map V.str)
inductive spMU(vs:List V)(H:Hp)(Q:VK)(E:XK):Prop
|mk (a:_) (r:_):vs=[.ref a]->H a=some (.tup<|tupV r)->Q (.bl<|inT r.op opsU) H->spMU vs H Q E
def sc82:zj ["row"] ["row"] (zc<|top 82):=fsM
def zbR(D:zn K mg "makes_units" (top 82))(O:KOps K mg):FN P w K mg base 1 "makes_units" ["row"] spMU:=by
 refine FN.o D sc82 ?_;rintro _ _ _ _ _ _ _ _ _ _ ⟨a,r,rfl,ha,q⟩;obtain⟨oa,hm,hO⟩:=O;refine⟨_,z8<|zl<|jj jb (zG qg (pv 0) zb) (Z1 rfl hm (v:=.ref oa) rfl) rfl,?_⟩
 symm
 exact⟨a,_,_,_,rfl,rfl,SqT.of ha,zm (j:=0) rfl,oa,_,rfl,.inr<|hO.sq _,rfl,rfl,q⟩
end
section
inductive JZ(vs:List V)(H:Hp)(Q:VK)(E:XK):Prop
|mk (n:Nat):vs=[.int (n:Int),.int 16]->n < 4096->(∀p H',Same H H'->H p=none->H' p=some (.lst<|zw<|dg n)->Q (.ref p) H')->JZ vs H Q E
def sc35:zj ["number","base","digits","left"] ["number","base"] (zc<|top 35):=fsM
def z5e(D:zn K mg "digits_of" (top 35)):FN P w K mg base 1 "digits_of" ["number","base"] JZ:=by
 refine FN.o D sc35 ?_;rintro _ _ _ _ _ H _ _ _ _ ⟨n,rfl,hn,q⟩;refine⟨_,z6 (zM 2 sc35.nd<|zO<|pa1<|zE jJ (pvX 0)<|pvX 1)
  (z6 (zM 3 sc35.nd<|zE jM (pvX 0)<|pvX 1)
  (z6 (ZQ vo (zo J6 (pvX 3) zb<|zy _)
   (z6 (zi<|z1W F.plainAttrs_list F.slot_list_insert F.type_list_insert z3n (pvX 2)<|pa2 zb<|zE jJ (pvX 3)<|pvX 1)
   (z8<|zM 3 sc35.nd<|zE jM (pvX 3)<|pvX 1)))
  (z8<|zl<|pvX 2))),?_⟩
 symm
 have e16:∀k:Nat,(k:Int) % 16=((k % 16:Nat):Int):=fun k=>by lia
 have d16:∀k:Nat,(k:Int) / 16=((k / 16:Nat):Int):=fun k=>by lia
 refine⟨_,rfl,_,rfl,_,_,rfl,rfl,by show (0:Int) < 16;decide,vX,fun p hp=>?_⟩;refine⟨_,rfl,_,rfl,_,_,rfl,rfl,⟨by decide,by decide⟩,?_⟩;refine JK (fun σ H2=>∃(left:Nat)(acc:List Nat),σ=[some<|.int (n:Int),some<|.int 16,some<|.ref p,some<|.int (left:Int)]/\H2 p=some (.lst<|zw acc)/\left < 4096/\acc.length<=3/\(left=0->acc=dg n)/\(0 < left->dg left++acc=dg n)/\Same H H2)
  (fun σ H2=>match σ with
  |[_,_,_,some<|.int l]=>l.toNat
  |_=>0) ?_ ?_ ?_
 ·refine⟨n / 16,[n % 16],by rw[<-d16];rfl,by show _=some (HO.lst [.int ((n % 16:Nat):Int)]);rw[<-e16];exact z7,by lia,by show 1<=3;decide,fun h0=>?_,fun h0=>(z27 (by lia) hn).symm,ze hp _⟩;unfold dg;rw[kz (by lia),Nat.mod_eq_of_lt<|by lia]
 ·rintro σ H2 ⟨left,acc,rfl,hp2,hl,hal,h0,h1,s2⟩;refine⟨_,rfl,_,_,rfl,rfl,_,rfl,?_⟩;refine ite2 (fun c=>?_) (fun c=>?_)
  ·have c':0 < left:=by
    have:decide ((0:Int) < (left:Int))=true:=c
    have:=kD this
    lia
   have hal':acc.length < 3:=by
    have e:=vI List.length (h1 c');rw[km] at e;have:=(Zw left).1
    have:=(Zw n).2
    lia
   refine⟨_,rfl,.inl ⟨rfl,_,SqL.of hp2⟩,_,rfl,_,rfl,_,_,rfl,rfl,by show (0:Int) < 16;decide,?_⟩;refine⟨p,_,_,rfl,rfl,hp2,zF (by rw[qb];lia),?_⟩;refine⟨_,rfl,_,rfl,_,_,rfl,rfl,⟨by decide,by decide⟩,⟨left / 16,left % 16::acc,by rw[<-d16];rfl,?_,by lia,by rw[kP];lia,fun z=>?_,fun z=>?_,?_⟩,?_⟩
   ·show _=some (HO.lst (.int ((left % 16:Nat):Int)::zw acc));rw[<-e16];exact z7
   ·rw[<-h1 c'];unfold dg;rw[kz (by lia),Nat.mod_eq_of_lt<|by lia];rfl
   ·rw[<-h1 c',z27 (by lia) hl,kX];rfl
   ·exact fun b o e=>by rw[zg<|zd e hp];exact s2 b o e
   ·show ((left:Int) / 16).toNat < ((left:Int)).toNat;lia
  ·have c':left=0:=by
    have:¬decide ((0:Int) < (left:Int))=true:=c
    rw[ye] at this;lia
   subst c';exact⟨_,rfl,q p H2 s2 hp<|by rw[<-h0 rfl];exact hp2⟩
 ·rintro σ H2 Q1 Q2 hq ⟨_,e0,i,j,e1,e2,b,e3,h⟩;exact⟨_,e0,i,j,e1,e2,b,e3,hq _ _ h⟩
def Qr(H:Hp)(as:List Aa)(ds:List (List Nat)):Prop:=Paired (fun a d=>H a=some (.lst<|zw d)) as ds
def Qr.get{H:Hp}{as:List Aa}{ds:List (List Nat)}(h:Qr H as ds){i:Nat}{x:V}(e:(as.map V.ref)[i]?=some x):∃a d,x=.ref a/\as[i]?=some a/\ds[i]?=some d/\H a=some (.lst<|zw d):=by
 rw[vh] at e;obtain⟨a,ha,rfl⟩:=Ad.mp e;have hl:i < ds.length:=by rw[<-Paired.length h];exact (kh.mp ha).1
 obtain⟨a',ha',hd⟩:=qV h (kL hl);rw[ha] at ha';cases ha';exact⟨a,ds[i],rfl,ha,kL hl,hd⟩
def Qr.same{H H':Hp}{as:List Aa}{ds:List (List Nat)}(h:Qr H as ds)(s:Same H H'):Qr H' as ds:=Paired.mapP h fun _ _ z=>s _ _ z
inductive JS(K:ku)(vs:List V)(H:Hp)(Q:VK)(E:XK):Prop
|mk (l:Aa) (as:List Aa) (ds:List (List Nat)):vs=[.ref l]->SqL K H l (as.map V.ref)->Qr H as ds->ds.length<=1000->(∀p H',Same H H'->H p=none->H' p=some (.lst<|zw<|ds.map List.length)->Q (.ref p) H')->JS K vs H Q E
def sc85:zj ["digits"] ["digits"] (zc<|top 85):=fsM
def ndrd:(["row_digits"]:List Str).Nodup:=by decide
def z6V(D:zn K mg "sized" (top 85))(G:Glo mg):FN P w K mg base 1 "sized" ["digits"] (JS K):=by
 refine FN.o D sc85 ?_;rintro _ _ A _ _ _ _ _ _ _ ⟨l,as,ds,rfl,hl,hD,hlen,q⟩;refine⟨_,z8 (zl (ql (N:=["row_digits"]) (nt:=1) (ix:=[]) (cl:=[]) rfl (zT.plain vW vW rfl vW rfl) (qy<|pv 0)
   (fun _ _ _ _=>zL 0 ndrd) (fun _ _ _ _=>qr) (fun _ _ _ _=>zq (z0C (K:=K) rfl) rfl G.len zK<|pa1<|pv 0))),?_⟩
 symm
 have hal:as.length=ds.length:=Paired.length hD;refine⟨l,rfl,⟨_,hl⟩,fun p hp=>z2X (K:=K) (a:=l) (xs:=as.map V.ref) (rest:=[]) (fun i=>.int (((ds[i]?).getD []).length:Int)) (by rw[kl];lia) hp hl (fun i x H3 A hi s3 k=>?_) fun H2 s2 h2=>q p H2 s2 hp ?_⟩
 ·obtain⟨a,d,rfl,_,hd,ha⟩:=hD.get hi;refine⟨a,_,rfl,.inl<|SqL.of<|s3 _ _ ha,?_⟩;have:=k H3 (Same.refl _)
  rw[hd] at this;rw[qb];exact this
 ·rw[h2];congr 2
  unfold zw;rw[kl,Ak,hal];refine Af fun i=>?_
  rw[vh,vh];by_cases hi:i < ds.length
  ·rw[An hi,kL hi];show some (V.int (((ds[i]?).getD []).length:Int))=_;rw[kL hi];rfl
  ·rw[vp (by rw[Am];lia),vp<|by lia];rfl
inductive z5U(K:ku)(vs:List V)(H:Hp)(Q:VK)(E:XK):Prop
|mk (l:Aa) (S:List Nat):vs=[.ref l]->SqL K H l (zw S)->S.length<=1000->(∀p H',Same H H'->H p=none->H' p=some (.lst<|zw<|(List.range S.length).map<|fstU S)->Q (.ref p) H')->z5U K vs H Q E
def sc84:zj ["sizes","firsts","many","size"] ["sizes"] (zc<|top 84):=fsM
def z56{S:List Nat}{i x:Nat}(h:S[i]?=some x):fstU S (i+1)=fstU S i+x:=by
 unfold fstU;rw[List.take_add_one,h,List.sum_append];simp
def zaS(D:zn K mg "first_units" (top 84)):FN P w K mg base 1 "first_units" ["sizes"] (z5U K):=by
 refine FN.o D sc84 ?_;rintro _ _ _ _ _ H _ _ _ _ ⟨l,S,rfl,hl,hlen,q⟩;refine⟨_,z6 (zM 1 sc84.nd<|zO qC)
  (z6 (zM 2 sc84.nd zb)
  (z6 (qQ vo rfl (qy<|pv 0) (zL 3 sc84.nd)
   (z6 (zi<|jS (pv 1)<|pa1<|pv 2)
   (z8<|z9X (i:=2) sc84.nd rfl (Or.inl rfl) (pv 3) zay)))
  (z8<|zl<|pv 1))),?_⟩
 symm
 refine⟨vj _,fun p hp=>?_⟩;have s1:=ze hp (.lst []);refine⟨l,rfl,⟨_,s1.seq hl⟩,ZZ (xs:=zw S) (fun i σ H2=>(∃x:Option V,σ=[some<|.ref l,some<|.ref p,some<|.int (fstU S i:Nat),x])/\Same H H2/\H2 p=some (.lst<|zw<|(List.range i).map<|fstU S))
  ⟨⟨none,rfl⟩,s1,z7⟩ (fun i σ H2 _ zz=>by obtain⟨_,s2,_⟩:=zz;exact s2.seq hl) ?_ ?_⟩
 ·rintro i x σ H2 hi ⟨⟨b,rfl⟩,s2,hp2⟩;obtain⟨n,hn,rfl⟩:=z0j hi;have hil:i < S.length:=(kh.mp hn).1;refine⟨.inl ⟨rfl,_,SqL.of hp2⟩,?_⟩;refine⟨p,_,_,rfl,rfl,hp2,zF (by rw[qb,kl,Am];lia),?_⟩;refine⟨_,rfl,_,_,rfl,rfl,?_⟩;refine⟨⟨_,by rw[z56 hn];rfl⟩,My.Same.upd s2 hp _,?_⟩;rw[z7,List.range_succ,kK,z11];rfl
 ·rintro σ H2 ⟨⟨b,rfl⟩,s2,hp2⟩;rw[qb] at hp2;exact q p H2 s2 hp hp2
end
noncomputable def nkF:Nat->List Str->List (Key × V)
|_,[]=>[]
|i,x::ns=>(Sum.inr x,V.int (i:Int))::nkF (i+1) ns
noncomputable def nk(ns:List Str):List (Key × V):=nkF 0 ns
def z2F(x:Str):∀(i:Nat)(ns:List Str),nkF i (ns++[x])=nkF i ns++[(Sum.inr x,V.int ((i+ns.length:Nat):Int))]
|i,[]=>rfl
|i,y::ns=>by
  show _::nkF (i+1) (ns++[x])=_;rw[z2F x (i+1) ns];show _=(Sum.inr y,V.int (i:Int))::(nkF (i+1) ns++_);rw[show i+1+ns.length=i+(y::ns).length by rw[kP];lia]
def z8m(ns:List Str)(x:Str):nk (ns++[x])=nk ns++[(Sum.inr x,V.int (ns.length:Int))]:=by
 unfold nk;rw[z2F,Nat.zero_add]
def z4H:∀(i:Nat)(ns:List Str),(nkF i ns).length=ns.length
|_,[]=>rfl
|i,x::ns=>by show (nkF (i+1) ns).length+1=_;rw[z4H,kP]
def z4F(ns:List Str):(nk ns).length=ns.length:=z4H 0 ns
def z4G(x:Str):∀(i:Nat)(ns:List Str),valV (nkF i ns) (Sum.inr x:Key)=if x∈ns then some (.int ((i+ns.idxOf x:Nat):Int)) else none
|i,[]=>rfl
|i,y::ns=>by
  have ih:=z4G x (i+1) ns;by_cases e:y=x
  ·subst e;rw[kz<|kQ ..,List.idxOf_cons_self];show valV ((Sum.inr y,V.int (i:Int))::nkF (i+1) ns) _=_;unfold valV;simp
  ·have h1:valV (nkF i (y::ns)) (Sum.inr x:Key)=valV (nkF (i+1) ns) (Sum.inr x:Key):=by
    show valV ((Sum.inr y,V.int (i:Int))::nkF (i+1) ns) _=_;unfold valV;rw[List.find?_cons_of_neg<|by simpa using e]
   rw[h1,ih];by_cases m:x∈ns
   ·rw[kz m,kz<|kR _ m,show (y::ns).idxOf x=ns.idxOf x+1 by rw[List.idxOf_cons,show (y == x)=false by simpa using e];rfl,Nat.add_right_comm,Nat.add_assoc]
   ·rw[ky m,ky fun z=>by rcases kE.mp z with z|z;exact e z.symm;exact m z]
def z4E(ns:List Str)(x:Str):valV (nk ns) (Sum.inr x:Key)=if x∈ns then some (.int ((ns.idxOf x:Nat):Int)) else none:=by
 unfold nk;rw[z4G,Nat.zero_add]
section
inductive z49(K:ku)(vs:List V)(H:Hp)(Q:VK)(E:XK):Prop
|mk (l:Aa) (as:List Aa) (rs:List Row) (so:Str):vs=[.ref l,.str so]->SqL K H l (as.map V.ref)->zI H as rs->Code rs->(∀p H',Same H H'->H p=none->H' p=some (.lst<|qv rs so)->Q (.ref p) H')->z49 K vs H Q E
noncomputable abbrev N81:List Str:=["code","sort"]
def sc81:zj N81 ["code","sort"] (zc<|top 81):=fsM
noncomputable def zb3:Scope:=(((cpX<|(zR<|top 81).getD 0<|.Pass ⟨0,0,0,0⟩).bind cpS).getD<|zc<|top 81)
noncomputable def cl81(L:Aa):List (Str × Aa):=[("sort",L+1)]
noncomputable def nm81:List (Str × NameKind):=[(".0",.local),("row",.local),("arg_sort",.globalImplicit),("sort",.cell)]
def cs81{f:Aa}{cdv:Ab}{A:Around}{vZ:List Env}{s:Ac}{H:Hp}{E:XK}:
  zT (cxOf CX0 P w K mg base N81 "args_of_sort" (zc<|top 81) f cdv A vZ s H E).nox ["row","sort"] 1 [1] zb3 (cl81 s.heap.objs.size):=
 zT.mk3 (nm:=nm81) (ks:=(cl81 0).map Prod.fst) rfl rfl ⟨vW,vW⟩ rfl rfl rfl vW rfl rfl rfl rfl
def nd81:(["row","sort"]:List Str).Nodup:=vW
def z38{rs:List Row}{i:Nat}{r:Row}(h:rs[i]?=some r):rs.take (i+1)=rs.take i++[r]:=by rw[List.take_add_one,h];rfl
def z2t{H:Hp}{as:List Aa}{rs:List Row}(h:zI H as rs){i:Nat}{x:V}(e:(as.map V.ref)[i]?=some x):∃a r,x=.ref a/\rs[i]?=some r/\H a=some (.tup<|tupV r):=by
 rw[vh] at e;obtain⟨a,ha,rfl⟩:=Ad.mp e;have hl:i < rs.length:=by rw[<-Paired.length h];exact (kh.mp ha).1
 obtain⟨a',ha',hd⟩:=qV h (kL hl);rw[ha] at ha';cases ha';exact⟨a,rs[i],rfl,kL hl,hd⟩
def jY{rs:List Row}(hc:Code rs){r:Row}(h:r∈rs):∃s,zx r.op=some s:=by
 have:rowV r.op r.arg (.int r.line)=true:=hc.ok r h
 unfold rowV at this;cases e:zx r.op with
|none=>rw[e] at this;cases this
|some s=>exact⟨s,rfl⟩
def z92(D:zn K mg "args_of_sort" (top 81))(FS:Fb P w K mg base):FN P w K mg base 2 "args_of_sort" ["code","sort"] (z49 K):=by
 refine FN.o D sc81 ?_;rintro _ _ _ _ s H _ _ _ hr ⟨l,as,rs,so,rfl,hl,hR,hc,q⟩;have hlen:=hc.hi;refine⟨_,z8 (zl (ql (N:=["row","sort"]) (nt:=1) (ix:=[1]) (cl:=cl81 s.heap.objs.size) rfl cs81 (qy<|pv 0) (fun _ _ _ _=>zL 0 nd81)
   (fun _ _ _ _=>z1O<|zo qX (zk FS hr rfl<|pa1<|zG (Zf (K:=K) rfl) (pv 0) zb) (pv 1)<|zy _) (fun _ _ _ _=>zG (Zf (K:=K) rfl) (pv 0) zb))),?_⟩
 symm
 have hal:as.length=rs.length:=Paired.length hR;refine⟨l,rfl,⟨_,hl⟩,fun p hp=>Zo (K:=K) (a:=l) (xs:=as.map V.ref) (fun i ys σ H2=>(∃x:Option V,σ=[x,some<|.str so])/\ys=qv (rs.take i) so/\Same H H2/\H2 p=some (.lst ys))
  ⟨⟨none,rfl⟩,rfl,ze hp _,z7⟩ (fun i ys σ H2 _ zz=>by obtain⟨_,_,s2,_⟩:=zz;exact s2.seq hl) ?_ ?_⟩
 ·rintro i x ys σ H2 hi ⟨⟨b,rfl⟩,rfl,s2,hp2⟩;obtain⟨a,r,rfl,hr',ha⟩:=z2t hR hi;have hil:i < rs.length:=(kh.mp hr').1;obtain⟨s',hs'⟩:=jY hc (kH hr');have ha2:=SqT.of (K:=K) (s2 _ _ ha);have hle:=qE (rs.take i) so;rw[vq] at hle;have e1:qv (rs.take (i+1)) so=qv (rs.take i) so++(if s'=so then [r.arg] else []):=by
   unfold qv;rw[z38 hr',List.filter_append,kK];congr 1
   by_cases z:s'=so
   ·rw[kz z,List.filter_cons_of_pos<|by rw[hs',z];simp];rfl
   ·rw[ky z,List.filter_cons_of_neg<|by rw[hs'];simpa using z];rfl
  refine zaG ⟨a,_,_,_,rfl,rfl,ha2,zm (j:=0) rfl,r.op,s',rfl,hs',rfl,_,rfl,?_⟩;refine ite2 (fun c=>?_) (fun c=>?_)
  ·have z:s'=so:=by have:=kD c;injection this
   refine⟨a,_,_,_,rfl,rfl,ha2,zm (j:=1) rfl,hp2,zF (by lia),as.length - (i+1),by rw[kl];lia,by rw[kl],by rw[kl];lia,⟨_,rfl⟩,?_,My.Same.upd s2 hp _,z7⟩;rw[e1,kz z]
  ·have z:s'≠so:=fun z=>c (by rw[z];exact kj rfl)
   refine⟨as.length - (i+1),by rw[kl];lia,by rw[kl],by rw[kl];lia,⟨_,rfl⟩,?_,s2,hp2⟩;rw[e1,ky z,kW]
 ·rintro ys σ H2 ⟨_,rfl,s2,hp2⟩;rw[kl,hal,vC] at hp2;exact q p H2 s2 hp hp2
def sc80:zj ["keys","places","key"] ["keys"] (zc<|top 80):=fsM
inductive z3Z(K:ku)(vs:List V)(H:Hp)(Q:VK)(E:XK):Prop
|mk (l:Aa) (ks:List Str):vs=[.ref l]->SqL K H l (ks.map V.str)->ks.length<=900->(∀d H',Same H H'->H d=none->H' d=some (.dK<|nk<|nub ks)->Q (.ref d) H')->z3Z K vs H Q E
def qN{α:Type}{l:List α}{i:Nat}{x:α}(h:l[i]?=some x):l.take (i+1)=l.take i++[x]:=by rw[List.take_add_one,h];rfl
def z8J(D:zn K mg "numbered" (top 80))(G:Glo mg):FN P w K mg base 1 "numbered" ["keys"] (z3Z K):=by
 refine FN.o D sc80 ?_;rintro _ _ _ _ _ H _ _ _ _ ⟨l,ks,rfl,hl,hlen,q⟩;refine⟨_,z6 (zM 1 sc80.nd QN)
  (z6 (qQ vo rfl (qy<|pv 0) (zL 2 sc80.nd)
   (z8<|zi<|J4 (pv 1) (pv 2) (zq z5C rfl G.len zK<|pa1<|pv 1) ⟨rfl,rfl,rfl,rfl⟩))
  (z8<|zl<|pv 1)),?_⟩
 symm
 intro d hd;have s1:=ze hd (.dK []);refine⟨l,rfl,⟨_,s1.seq hl⟩,ZZ (xs:=ks.map V.str) (fun i σ H2=>(∃x:Option V,σ=[some<|.ref l,some<|.ref d,x])/\Same H H2/\H2 d=some (.dK<|nk<|nub<|ks.take i))
  ⟨⟨none,rfl⟩,s1,z7⟩ (fun i σ H2 _ zz=>by obtain⟨_,s2,_⟩:=zz;exact s2.seq hl) ?_ ?_⟩
 ·rintro i x σ H2 hi ⟨⟨b,rfl⟩,s2,hd2⟩;rw[vh] at hi;obtain⟨k,hk,rfl⟩:=Ad.mp hi;have hil:i < ks.length:=(kh.mp hk).1;have hle:=jE (ks.take i);rw[vq] at hle;refine⟨d,rfl,.inl ⟨_,.inl hd2⟩,d,_,rfl,hd2,_,(Sum.inr k:Key),hd2,rfl,zF (by rw[z4F];lia),?_⟩;have e1:nub (ks.take (i+1))=nubA (nub<|ks.take i) k:=by rw[qN hk,z2D]
  rw[z4E];by_cases m:k∈nub (ks.take i)
  ·rw[kz m];refine⟨⟨_,rfl⟩,s2,?_⟩;rw[e1];unfold nubA;rw[kz m];exact hd2
  ·have hv:valV (nk<|nub<|ks.take i) (Sum.inr k:Key)=none:=by rw[z4E,ky m]
   rw[ky m];refine⟨⟨_,rfl⟩,My.Same.upd s2 hd _,?_⟩;rw[z7,z2x _ hv,e1];unfold nubA;rw[ky m,z8m,z4F]
 ·rintro σ H2 ⟨⟨b,rfl⟩,s2,hd2⟩;rw[kl,vC] at hd2;exact q d H2 s2 hd hd2
inductive z40(P:Program)(w:World)(K:ku)(vs:List V)(H:Hp)(Q:VK)(E:XK):Prop
|mk (l:Aa) (as:List Aa) (xs:List V):vs=[.ref l]->SqL K H l (as.map V.ref)->Paired (fun a v=>H a=some (.tup<|ckey v)) as xs->(∀v∈xs,ScP v)->xs.length<=900->(∀d o H',Same H H'->H d=none->H' d=some (FzN d o)->CD P w H' d o (nub xs)->Q (.ref d) H')->z40 P w K vs H Q E
def z8K(D:zn K mg "numbered" (top 80))(G:Glo mg):FN P w K mg base 1 "numbered" ["keys"] (z40 P w K):=by
 refine FN.o D sc80 ?_;rintro _ _ _ _ _ H _ _ _ hr ⟨l,as,xs,rfl,hl,hA,hsc,hlen,q⟩;have hu:=z0u hr;refine⟨_,z6 (zM 1 sc80.nd z6c)
  (z6 (qQ vo rfl (qy<|pv 0) (zL 2 sc80.nd)
   (z8<|zi<|z3h hu (pv 1) (pv 2) (zq z5D rfl G.len zK<|pa1<|pv 1) ⟨rfl,rfl,rfl,rfl⟩))
  (z8<|zl<|pv 1)),?_⟩
 symm
 intro d o hd c0;have s1:=ze hd (FzN d o);have hal:as.length=xs.length:=Paired.length hA;refine⟨l,rfl,⟨_,s1.seq hl⟩,ZZ (xs:=as.map V.ref) (fun i σ H2=>(∃x:Option V,σ=[some<|.ref l,some<|.ref d,x])/\Same H H2/\∃o,H2 d=some (FzN d o)/\CD P w H2 d o (nub<|xs.take i))
  ⟨⟨none,rfl⟩,s1,o,z7,c0.keep fun b ys e=>s1 _ _ e⟩ (fun i σ H2 _ zz=>by obtain⟨_,s2,_⟩:=zz;exact s2.seq hl) ?_ ?_⟩
 ·rintro i x σ H2 hi ⟨⟨b,rfl⟩,s2,o2,hd2,c2⟩;rw[vh] at hi;obtain⟨a,ha,rfl⟩:=Ad.mp hi;have hil:i < xs.length:=by rw[<-hal];exact (kh.mp ha).1
  obtain⟨a',ha',hk⟩:=qV hA (kL hil);rw[ha] at ha';cases ha';have hle:=jE (xs.take i);rw[vq] at hle;have e1:nub (xs.take (i+1))=nubA (nub<|xs.take i) xs[i]:=by rw[qN<|kL hil,z2D]
  refine⟨d,o2,_,rfl,hd2,c2,d,o2,_,rfl,hd2,c2,o2,a,xs[i],_,hd2,c2,rfl,s2 _ _ hk,hsc _<|List.getElem_mem hil,rfl,by lia,?_⟩;by_cases m:xs[i]∈nub (xs.take i)
  ·refine .inl ⟨_,z1d m,⟨_,rfl⟩,s2,o2,hd2,?_⟩;rw[e1];unfold nubA;rw[kz m];exact c2
  ·refine .inr ⟨m,fun o' c'=>⟨⟨_,rfl⟩,My.Same.upd s2 hd _,o',z7,?_⟩⟩;rw[e1];unfold nubA;rw[ky m];exact c'
 ·rintro σ H2 ⟨⟨b,rfl⟩,s2,o2,hd2,c2⟩;rw[kl,hal,vC] at c2;exact q d o2 H2 s2 hd hd2 c2
end
noncomputable def strV:V->Str
|.str x=>x
|_=>""
noncomputable def nmS(rs:List Row):List Str:=(qv rs "name").map strV
def J8{x:V}(h:qk "name" x=true):x=.str (strV x):=by
 unfold qk at h;rw[ky vW,kz rfl] at h;unfold ZV jt at h;cases x <;> first|rfl|(simp at h)
def jB{rs:List Row}(hc:Code rs){r:Row}(hr:r∈rs){s:Str}(hs:zx r.op=some s):qk s r.arg=true:=
 z5i (op:=r.op) (arg:=r.arg) (ln:=r.line) (hc.ok r hr) hs
def z34{rs:List Row}(hc:Code rs):qv rs "name"=(nmS rs).map V.str:=by
 unfold nmS;rw[Ak];conv=>lhs;rw[<-List.map_id (qv rs "name")]
 refine Ao fun x hx=>?_
 obtain⟨r,hr,rfl⟩:=yf.mp hx;obtain⟨h1,h2⟩:=Al.mp hr;exact J8 (jB hc h1<|kD h2)
def zaI:∀(l acc:List Str),(l.map V.str).foldl nubA (acc.map V.str)=(l.foldl nubA acc).map V.str
|[],acc=>rfl
|x::l,acc=>by
  have e:nubA (acc.map V.str) (V.str x)=(nubA acc x).map V.str:=by
   unfold nubA;by_cases m:x∈acc
   ·rw[kz m,kz<|yf.mpr ⟨x,m,rfl⟩]
   ·rw[ky m,ky (fun z=>by obtain⟨y,hy,e⟩:=yf.mp z;injection e with e;exact m (e▸hy)),kK];rfl
  show (l.map V.str).foldl nubA (nubA (acc.map V.str)<|V.str x)=_;rw[e,zaI l];rfl
def z8k(l:List Str):nub (l.map V.str)=(nub l).map V.str:=zaI l []
def z4C{rs:List Row}(hc:Code rs):nsOf rs=(nub<|nmS rs).map V.str:=by
 unfold nsOf;rw[z34 hc,z8k]
def z4X(l:List Str)(x:Str):(l.map V.str).idxOf (V.str x)=l.idxOf x:=by
 induction l with
|nil=>rfl
|cons y l ih=>
  rw[kU,List.idxOf_cons,List.idxOf_cons,ih];have:(V.str y == V.str x)=(y == x):=by
   rw[vT];simp
  rw[this]
def z0U{x:V}(h:qk "value" x=true):ScP x:=by
 unfold qk at h;rw[kz rfl] at h;unfold zU QT z0q jt at h;cases x <;> first|exact⟨_,rfl⟩|(simp[isB,zW] at h)
def zb0{rs:List Row}(hc:Code rs):∀v∈qv rs "value",ScP v:=by
 intro v hv;obtain⟨r,hr,rfl⟩:=yf.mp hv;obtain⟨h1,h2⟩:=Al.mp hr;exact z0U (jB hc h1<|kD h2)
structure NumD(P:Program)(w:World)(H:Hp)(rs:List Row)(dc dn:Aa):Prop where
 c:∃o,H dc=some (FzN dc o)/\CD P w H dc o (csOf rs)
 n:H dn=some (.dK<|nk<|nub<|nmS rs)
def NumD.same{P:Program}{w:World}{H H':Hp}{rs:List Row}{dc dn:Aa}(h:NumD P w H rs dc dn)(s:Same H H'):NumD P w H' rs dc dn:=by
 obtain⟨⟨o,h1,h2⟩,h3⟩:=h;exact⟨⟨o,s _ _ h1,h2.keep fun b ys e=>s _ _ e⟩,s _ _ h3⟩
def zb9(kvs:List (Key × V))(rs:List Row)(S:List Nat):Prop:=∀(m:Int)(j:Nat),zA rs m=some j->valV kvs (Sum.inl m:Key)=some (.int ((fstU S j:Nat):Int))
section
inductive JV(P:Program)(w:World)(K:ku)(vs:List V)(H:Hp)(Q:VK)(E:XK):Prop
|mk (a dc dn dg:Aa) (rs:List Row) (r:Row) (S:List Nat) (kvs:List (Key × V)):vs=[.ref a,.ref dc,.ref dn,.ref dg]->H a=some (.tup<|tupV r)->Code rs->r∈rs->inT r.op opsU=true->NumD P w H rs dc dn->H dg=some (.dK kvs)->zb9 kvs rs S->(∀H',Same H H'->Q (.int ((numR (csOf rs) (nsOf rs) (jm rs S) r:Nat):Int)) H')->JV P w K vs H Q E
def sc83:zj ["row","consts","names","goals","op","arg","sort"] ["row","consts","names","goals"] (zc<|top 83):=fsM
def z0m{rs:List Row}(hc:Code rs){r:Row}(hr:r∈rs)(hs:zx r.op=some ("mark":Str)):∃(m:Int)(j:Nat),r.arg=.int m/\zA rs m=some j:=by
 obtain⟨i,hi⟩:=List.mem_iff_getElem?.mp hr;obtain⟨m,em,_,_⟩:=Z4 (jB hc hr hs);have:=hc.fit i r hi
 unfold jF at this;split at this
 ·rw[em] at this;exact⟨m,i,em,kD this⟩
 ·rw[em] at this;obtain⟨j,hj⟩:=Ag.mp this;exact⟨m,j,em,hj⟩
def z5b(D:zn K mg "number_for" (top 83))(FS:Fb P w K mg base)(FV:FN P w K mg base 1 "value_key" ["value"] spVK):FN P w K mg base 2 "number_for" ["row","consts","names","goals"] (JV P w K):=by
 refine FN.o D sc83 ?_;rintro _ _ _ _ _ H _ Q _ hr ⟨a,dc,dn,dg,rs,r,S,kvs,rfl,ha,hc,hmr,hop,hN,hdg,hG,q⟩;have hu:=z0u hr;refine⟨_,z6 (J0 (i:=4) (j:=5) rfl sc83.nd rfl rfl (by decide) rfl rfl (pa2 (zG qg (pv 0) zb)<|zG qg (pv 0) zb) rfl)
  (z6 (zM 6 sc83.nd<|zk FS hr rfl<|pa1<|pv 4)
  (z6 (zV (zo qX (pv 6) zh<|zy _) (z8<|zl<|z6d hu (pv 1) (zk FV hr rfl<|pa1<|pv 5) fun _ _=>rfl) zC)
  (z6 (zV (zo qX (pv 6) zh<|zy _) (z8<|zl<|ZC hu (pv 2) (pv 5) fun _ _=>rfl) zC)
  (z6 (zV (zo qX (pv 6) zh<|zy _) (z8<|zl<|ZC hu (pv 3) (pv 5) fun _ _=>rfl) zC)
  (z8<|zl<|j9 (zo J5 (pv 5) qR<|zy _) zb<|pv 5))))),?_⟩
 symm
 obtain⟨so,hs⟩:=jY hc hmr;have s1:=Same.refl H;refine⟨a,_,_,_,rfl,rfl,SqT.of ha,zm (j:=0) rfl,a,_,_,_,rfl,rfl,SqT.of ha,zm (j:=1) rfl,_,_,rfl,r.op,so,rfl,hs,?_⟩;have e0:∃H1,H1=H:=⟨H,rfl⟩
 obtain⟨H1,e1⟩:=e0;rw[<-e1];have s1:Same H H1:=by rw[e1];exact Same.refl _
 have q1:∀H',Same H1 H'->Q (.int ((numR (csOf rs) (nsOf rs) (jm rs S) r:Nat):Int)) H':=fun H' s'=>q H' (s1.trans s')
 have hfit:=jB hc hmr hs;refine⟨rfl,_,rfl,?_⟩;refine ite2 (fun c=>?_) (fun c=>?_)
 ·have z:so="value":=by have:=kD c;injection this
  subst z;refine⟨r.arg,rfl,z0U hfit,fun t2 H2 s2 _ ht2=>?_⟩;obtain⟨⟨o,ho,hcd⟩,_⟩:=hN.same (s1.trans s2);refine⟨dc,o,_,t2,(csOf rs).idxOf r.arg,r.arg,rfl,ho,hcd,rfl,ht2,z1d<|Z3.mpr<|Jp hmr hs,?_⟩;have:=q1 H2 s2
  unfold numR at this;rw[kz hs] at this;exact this
 have n1:so≠"value":=fun z=>c (by rw[z];exact kj rfl)
 refine⟨rfl,_,rfl,?_⟩;refine ite2 (fun c=>?_) (fun c=>?_)
 ·have z:so="name":=by have:=kD c;injection this
  subst z;have ea:=J8 hfit;have hm:strV r.arg∈nub (nmS rs):=Z3.mpr (yf.mpr ⟨r.arg,Jp hmr hs,rfl⟩);refine⟨dn,.int (((nub<|nmS rs).idxOf (strV r.arg):Nat):Int),rfl,?_,?_⟩
  ·rw[ea];have:=DGet.k (k:=(Sum.inr (strV r.arg):Key)) (s1 _ _ hN.n)
   rw[z4E,kz hm] at this;exact this
  ·have:=q1 H1 (Same.refl _)
   unfold numR at this;rw[ky (by rw[hs];decide+kernel),kz hs,z4C hc] at this;have e2:((nub<|nmS rs).map V.str).idxOf r.arg=(nub<|nmS rs).idxOf (strV r.arg):=by
    conv=>lhs;rw[ea]
    exact z4X _ _
   rw[e2] at this;exact this
 have n2:so≠"name":=fun z=>c (by rw[z];exact kj rfl)
 refine⟨rfl,_,rfl,?_⟩;refine ite2 (fun c=>?_) (fun c=>?_)
 ·have z:so="mark":=by have:=kD c;injection this
  subst z;obtain⟨m,j,em,hj⟩:=z0m hc hmr hs;refine⟨dg,.int ((fstU S j:Nat):Int),rfl,?_,?_⟩
  ·rw[em];have:=DGet.k (k:=(Sum.inl m:Key)) (s1 _ _ hdg)
   rw[hG m j hj] at this;exact this
  ·have:=q1 H1 (Same.refl _)
   unfold numR at this;rw[ky (by rw[hs];decide+kernel),ky (by rw[hs];decide+kernel),kz hs,em] at this;show Q (.int ((fstU S j:Nat):Int)) H1;unfold jm at this;rw[show argI (V.int m)=m from rfl,hj] at this;exact this
 have n3:so≠"mark":=fun z=>c (by rw[z];exact kj rfl)
 have sm:=Qn hfit n1 n2 n3;have:=q1 H1 (Same.refl _)
 unfold numR at this;rw[ky (by rw[hs];simpa using n1),ky (by rw[hs];simpa using n2),ky<|by rw[hs];simpa using n3] at this;refine⟨rfl,_,rfl,?_⟩;cases ex:r.arg with
|non=>
  rw[ex] at this;exact iteT this
|int i=>
  rw[ex] at this sm;have e:((argI<|V.int i).toNat:Int)=i:=Ap sm.1;rw[e] at this;exact iteF this
|_=>
  exfalso
  unfold qk at hfit;rw[ky n1,ky n2,ex] at hfit;split at hfit
  ·cases hfit
  ·split at hfit
   ·cases hfit
   ·cases hfit
end
end My
namespace L2
def PM(X:Cx)(m:Sem Unit)(t:St->Hp->(Hp->Prop)->Prop):Prop:=
 ∀(vY:List (Aa × Obj))(s:Ac)(σ:St)(H:Hp)(Q:Hp->Prop),Inv X vY σ H s->t σ H Q->wpAny (model X.prog X.w) X.A m (fun _ s'=>∃H',Inv X vY σ H' s'/\Q H') X.xe s
def z7g(e:Expr)(it:Ab)(D:Aa)(env:Env)(iter target:Expr)(ifs:List Expr)(emit:Sem Unit):Prop:=
 compTurn e 0 it (.ref D) env=(do
   standAt iter.pos
   let r <-pyNext it
   match r with
  |none=>pure (.done .next)
  |some v=>do
    letOwnedTupleGo target it v
    assign target env v
    let ok <-forIn ifs true fun c r=>if r=true then do let ok <-isTrue c env (eval c env);pure (ForInStep.yield ok) else pure (ForInStep.yield r)
    if ok=true then do
     let _ <-emit
     again (.compLoop e 0 it (.ref D) env)
    else again (.compLoop e 0 it (.ref D) env))
def DenG(prog:Program)(w:World)(e:Expr)(it:Ab)(D:Aa)(env:Env):Prop:=
 (model prog w).den (.compLoop e 0 it (.ref D) env)=(compTurn e 0 it (.ref D) env).onRaise (fun x=>do noteFrame x env;theTreesLotGoes x)/\∀A:Around,A.under (.compLoop e 0 it (.ref D) env)=A
def z7I(prog:Program)(w:World)(A:Around)(e:Expr)(it acc:Ab)(env:Env)(R:Result->Ac->Prop)(s:Ac):Prop:=
 codeAny (model prog w) A (.compLoop e 0 it acc env) R s->wpAny (model prog w) A (pyIter it) (fun it' s'=>codeAny (model prog w) A (.compLoop e 0 it' acc env) R s') (notedBy (model prog w) A env fun x s'=>R (.error x) s') s->
  codeAny (model prog w) A (.compStart e 0 it acc env) R s
def z1p{prog:Program}{w:World}{A:Around}{R:Result->Ac->Prop}{s:Ac}{e target iter:Expr}{ifs:List Expr}{it:Ab}{D:Aa}{env:Env}{emit:Sem Unit}(hT:z7g e it D env iter target ifs emit)(hD:DenG prog w e it D env)(I:Nat->Ac->Prop)(turn:∀n s,I n s->wpAny (model prog w) A (pyNext it) (fun r s₁=>match r with
  |none=>R (.ok .next) s₁
  |some v=>wpAny (model prog w) A (letOwnedTupleGo target it v) (fun _ s₁'=>wpAny (model prog w) A (assign target env v) (fun _ s₂=>
     wpAny (model prog w) A (forIn ifs true fun c r=>if r=true then do let ok <-isTrue c env (eval c env);pure (ForInStep.yield ok) else pure (ForInStep.yield r)) (fun ok s₃=>
     if ok=true then wpAny (model prog w) A emit (fun _ s₄=>∃m,m < n/\I m s₄) (fun _ _=>False) s₃
     else ∃m,m < n/\I m s₃)
     (fun _ _=>False) s₂) (fun _ _=>False) s₁') (fun _ _=>False) s₁) (fun _ _=>False) s)(n:Nat)(h:I n s):codeAny (model prog w) A (.compLoop e 0 it (.ref D) env) R s:=by
 refine codeAny_loop rfl I (fun n s hI=>?_) n h;rw[hD.2,hD.1];refine wpAny_noted ?_;rw[hT];refine va (wpAny_standAt<|va (vM (turn n s hI) (fun r s₁ h₁=>?_) fun _ _ h'=>h'.elim));cases r with
|none=>exact ve h₁
|some v=>
  refine va (vM h₁ (fun _ s₁' h₁'=>?_) fun _ _ h'=>h'.elim);refine va (vM h₁' (fun _ s₂ h₂=>va (vM h₂ (fun ok s₃ h₃=>?_) fun _ _ h'=>h'.elim)) fun _ _ h'=>h'.elim);cases ok with
 |true=>
   rw[kz rfl] at h₃ ⊢
   exact va (vM h₃ (fun x s₃' h₃'=>ve ⟨rfl,h₃'⟩) fun _ _ h'=>h'.elim)
 |false=>
   rw[ky ke] at h₃ ⊢
   exact ve ⟨rfl,h₃⟩
noncomputable def z2T(kx vx:Expr)(D:Aa)(env:Env):Sem Unit:=do
 let kv <-eval kx env
 let vv <-holding [kv] (eval vx env)
 standAt {kx.pos with endLine:=vx.pos.endLine,endCol:=vx.pos.endCol}
 holding [kv,vv] (dictSet D kv vv)
def z79{prog:Program}{w:World}{kx vx target iter:Expr}{ifs:List Expr}{scope:Scope}{pos:Pos}{it:Ab}{D:Aa}{env:Env}:DenG prog w (.DictComp kx vx [⟨target,iter,ifs,0⟩] scope pos) it D env:=⟨rfl,fun _=>rfl⟩
def z3S{kx vx target iter:Expr}{ifs:List Expr}{scope:Scope}{pos:Pos}{it:Ab}{D:Aa}{env:Env}:z7g (.DictComp kx vx [⟨target,iter,ifs,0⟩] scope pos) it D env iter target ifs (z2T kx vx D env):=rfl
def z7p(u0:Aa->HO)(nt:Nat)(ix:List Nat)(wi:TI)(g:TG)(tc:TT)(tm:Aa->St->Hp->(Hp->Prop)->Prop):TE:=fun σ H Q=>wi σ H fun J H1=>∀l,H1 l=none->∃W:Nat->Nat->St->Hp->Prop,(∃m,W 0 m (qO nt ix σ)<|upd H1 l<|u0 l)/\∀i m σ' H2,W i m σ' H2->
 (J.stop i H2/\Q (.ref l) H2)\/(J.go i H2/\∀x H3,J.yld i H2 x H3->g x σ' H3 fun σ2 H4=>tc σ2 H4 fun b H5=>if b=true then tm l σ2 H5 fun H6=>∃m',m' < m/\W (i+1) m' σ2 H6
  else ∃m',m' < m/\W (i+1) m' σ2 H5)
section
variable {X:Cx}
def z28{e iter tg:Expr}{emit:Aa->Env->Sem Unit}{newAcc:Sem Ab}{o0:Obj}{u0:Aa->HO}{tm:Aa->St->Hp->(Hp->Prop)->Prop}{ifs:List Expr}{N:List Str}{nt:Nat}{ix:List Nat}{scope:Scope}{cl:List (Str × Aa)}{vY:List (Aa × Obj)}{σ:St}{H:Hp}{s:Ac}{it:Aa}{fp:List Aa}{tn:Nat->Heap->Prop}{J:It}{g:TG}{tc:TT}{Q:VK}{E:Ab->Ac->Prop}{RR:Ab->Aa->Result->Ac->Prop}(hc:X.calm=true)(sc:zT X N nt ix scope cl)(I:Inv X vY σ H s)(T:Turn X.prog X.w X.K tg J fp it tn)(st:tn 0 s.heap)(hf:∀b∈fp,FpOk X vY H b)(hg:∀(s:Ac)(H:Hp)(fp:List Aa)(C:Aa),PG (zt X N scope cl s H fp C) tg g)(ht:∀(s:Ac)(H:Hp)(fp:List Aa)(C:Aa),PTs (zt X N scope cl s H fp C) ifs tc)(he:∀(s:Ac)(H:Hp)(fp:List Aa)(C D:Aa),PM (zt X N scope cl s H fp C) (emit D<|compEnvC scope cl C X.env)<|tm D)(hTn:∀it D env,z7g e it D env iter tg ifs<|emit D env)(hDn:∀it D env,DenG X.prog X.w e it D env)(hSt:∀it acc env R s,z7I X.prog X.w X.A e it acc env R s)(hnew:∀(s:Ac)(Q:Ab->Ac->Prop),Q (.ref s.heap.objs.size) {s with heap:=s.heap.push o0}->wpAny (model X.prog X.w) X.A newAcc Q E s)(hlay:∀{vY σ H s},Inv X vY σ H s->qq X.prog X.w (upd H s.heap.objs.size<|u0 s.heap.objs.size) (s.heap.push o0) s.heap.objs.size (u0 s.heap.objs.size))(h:∀l,H l=none->∃W:Nat->Nat->St->Hp->Prop,(∃m,W 0 m (qO nt ix σ)<|upd H l<|u0 l)/\∀i m σ' H2,W i m σ' H2->
   (J.stop i H2/\Q (.ref l) H2)\/(J.go i H2/\∀x H3,J.yld i H2 x H3->g x σ' H3 fun σ2 H4=>tc σ2 H4 fun b H5=>if b=true then tm l σ2 H5 fun H6=>∃m',m' < m/\W (i+1) m' σ2 H6
    else ∃m',m' < m/\W (i+1) m' σ2 H5))(hRR:∀D C s' H' m,Inv X vY σ H' s'->s'.heap.Ns C m->C≠X.env.locals->H' C=none->X.s₀.heap.objs.size<=C->(∀x c,X.env.cells.lookup x=some c->c≠C)->(∀p∈X.pn++vY,p.1≠C)->Q (.ref D) H'->RR (.ref D) C (.ok .next) s'):
  wpAny (model X.prog X.w) X.A newAcc (fun acc s₃=>wpAny (model X.prog X.w) X.A (newFunctionEnv scope X.env.globals cl [] X.env.qual none .none<|some X.env) (fun cenv s₄=>
   codeAny (model X.prog X.w) X.A (.compStart e 0 (.ref it) acc {cenv with scope:=relabel scope X.env}) (RR acc cenv.locals) s₄) E s₃) E s:=by
 refine hnew _ _ ?_;have I3:Inv X vY σ (upd H s.heap.objs.size<|u0 s.heap.objs.size) {s with heap:=s.heap.push o0}:=I.laid (t':=s.toks) (fun _ _ q=>vb _ q) (kg _) (hlay I);have st3:tn 0 (s.heap.push o0):=T.keep _ _ _ st fun b hb o e=>vb _ e
 have fpl:∀b∈fp,b < s.heap.objs.size:=fun b hb=>by
  obtain⟨o,e,_⟩:=T.obj _ _ st b hb;exact vf e
 obtain⟨W,⟨m0,w0⟩,turn⟩:=h s.heap.objs.size I.fresh;have hf3:∀b∈fp,FpOk X vY (upd H s.heap.objs.size<|u0 s.heap.objs.size) b:=fun b hb=>⟨by rw[zg<|vn<|fpl b hb];exact (hf b hb).1,(hf b hb).2⟩
 generalize hD:s.heap.objs.size=D at *;generalize hH3:upd H D (u0 D)=H3 at *;generalize hs3:({s with heap:=s.heap.push o0}:Ac)=s3 at *;have hsz3:s3.heap.objs.size=D+1:=by rw[<-hs3,<-hD];exact Heap.size_push ..
 have st3':tn 0 s3.heap:=by rw[<-hs3];exact st3
 refine wpAny_newFunctionEnv (s:=s3) sc.nocell (by intro y hy;simp at hy) (fun h1 hns hsb=>?_) sc.kind;generalize hC:s3.heap.objs.size=C at *;have kept:∀b o,s3.heap.get? b=some o->h1.get? b=some o:=fun b o e=>hsb.extBut b o (by rw[<-hC];exact vn (vf e)) (vb _ e)
 show codeAny (model X.prog X.w) X.A (.compStart e 0 (.ref it) (.ref D)<|compEnvC scope cl C X.env) (RR (.ref D) C) {s3 with heap:=h1,toks:=s3.toks+0};have fpC:∀b∈fp,b≠C:=fun b hb=>vn (kM (fpl b hb)<|by rw[hsz3];exact Nat.le_succ D)
 have cellC:∀x c,cl.lookup x=some c->c≠C:=fun x c e z=>by
  obtain⟨v,q⟩:=I3.cell x c (sc.sub x c e);have:=q.lt
  rw[hC,z] at this;exact vD _ this
 have ok:(zt X N scope cl s3 H3 fp C).Ok:={
  mod:=I.ok.mod,kind:=(show (relabel scope X.env).kind=.function from sc.kind),glob:=I.ok.glob,blt:=I.ok.blt,above:=kY hC
  inj:=fun y z c e e'=>I.ok.inj y z c (sc.sub y c e) (sc.sub z c e')
  has:=fun y hy=>sc.has y hy
  cab:=fun y c e _=>nomatch e
  hd:=fun _=>I.ok.hd hc
  frames:=I.ok.frames
  stk:=.inl rfl
  exf:=fun b hb=>⟨fpC b hb,fun y c e=>(hf3 b hb).2.2.2.2.1 y c<|sc.sub y c e⟩
  bs:=I3.bs
  bsz:=kr I.ok.bsz I3.sz
  noex:=fun b o e hb=>by
   obtain⟨_,_,_,h4,_⟩:=hf3 b hb;rcases h4 with z|z
   ·exact I.ok.noex b o e z
   ·exact vd (kM (vf (I.ok.bs b o e).1) z) (vD _)
  exfs:=fun b hb z=>by
   obtain⟨_,h1,h2,_⟩:=hf3 b hb;rcases kE.mp (I3.stkSub b z) with q|q
   ·exact h1 q
   ·exact h2 q
  funs:=I3.stack
  frf:=I3.stkFree}
 have cellK:∀c v,s3.heap.IsCell c v->h1.IsCell c v:=fun c v ⟨o,ho,hd⟩=>⟨o,kept c o ho,hd⟩
 have I4:Inv (zt X N scope cl s3 H3 fp C) [] (qO nt ix σ) H3 {s3 with heap:=h1,toks:=s3.toks+0}:={
  ok:=ok,os:=rfl,bare:=I3.bare,base:=Un.kept kept
  loc:=⟨_,hns,fun i y v e1 e2 _=>by
   have e2:(qO nt ix σ)[i]?=some (some v):=e2;unfold qO at e2;by_cases hi:i < nt
   ·rw[yg (by simpa using hi),vt,kz hi] at e2;cases e2
   ·obtain⟨j,rfl⟩:∃j,i=nt+j:=⟨i - nt,by lia⟩
    rw[yh (by simp),vk,Ar,vh] at e2;obtain⟨k,hk,hXN,hkind,hrel,hcl⟩:=sc.free j y e1;rw[hk] at e2;have e3:σ[k]?=some (some v):=by
     cases q:σ[k]? with
    |none=>rw[Option.map_some,q] at e2;cases e2
    |some o=>rw[Option.map_some,q] at e2;simpa using e2
    obtain⟨m,_,hl⟩:=I3.loc;obtain⟨u,ru,lk⟩:=hl k y v hXN e3 (.inr<|.inl hkind);refine⟨u,ru,.inr ⟨.inl hrel,?_⟩⟩;rcases lk with ⟨z,_⟩|⟨_,c,hcc,hcell⟩
    ·rw[hkind] at z;cases z
    ·exact⟨c,hcl c hcc,cellK _ _ hcell⟩⟩
  cell:=fun y c e=>let ⟨v,q⟩:=I3.cell y c (sc.sub y c e);⟨v,cellK _ _ q⟩
  free:=I3.hok.fresh (kY hC)
  freeC:=fun y c e=>I3.freeC y c (sc.sub y c e)
  pin:=fun p hp=>vd (show p∈([]:List (Aa × Obj)) from hp) (by simp)
  hok:=I3.hok.kept kept
  len:=by show (qO nt ix σ).length=N.length;rw[sc.len];unfold qO;simp}
 have st4:tn 0 h1:=T.keep _ _ _ st3' fun b hb o e=>kept b o e
 have stat:∀{H':Hp},(∀b∈fp,H' b=none)->∀b∈fp,FpOk (zt X N scope cl s3 H3 fp C) [] H' b:=fun hn b hb=>⟨hn b hb,fpC b hb,ok.exfs b hb,.inl hb,(fun y c e=>(hf3 b hb).2.2.2.2.1 y c<|sc.sub y c e),fun p hp=>vd (show p∈([]:List (Aa × Obj)) from hp)<|by simp⟩
 have loop:codeAny (model X.prog X.w) X.A (.compLoop e 0 (.ref it) (.ref D)<|compEnvC scope cl C X.env) (RR (.ref D) C) {s3 with heap:=h1,toks:=s3.toks+0}:=by
  refine z1p (hTn _ _ _) (hDn _ _ _) (fun n s'=>∃i σ' H',Inv (zt X N scope cl s3 H3 fp C) [] σ' H' s'/\tn i s'.heap/\(∀b∈fp,H' b=none)/\W i n σ' H') ?_ m0 ⟨0,_,H3,I4,st4,fun b hb=>(hf3 b hb).1,w0⟩;rintro n s5 ⟨i,σ5,H5,I5,st5,fr5,w5⟩;rcases turn i n σ5 H5 w5 with ⟨stop,qn⟩|⟨go,step⟩
  ·refine thn (T.done (zt X N scope cl s3 H3 fp C) rfl rfl rfl rfl i [] s5 σ5 H5 _ I5 (stat fr5) st5 stop) fun r s6 zz=>?_
   obtain⟨hr,I6⟩:=zz;subst hr;obtain⟨m6,n6,_⟩:=I6.loc;refine hRR D C s6 H5 m6 (I3.call' I6.os I6.base I6.hok I6.bare fun b hb=>?_) n6 (As<|by have:=I3.lt;rw[hC] at this;exact this) I6.free (by have:=I3.sz;rw[hC] at this;exact this) (fun y c e z=>?_) (fun p hp z=>?_) qn
   ·obtain⟨_,h1,_,h4,h5,h6⟩:=hf3 b hb;exact⟨h4,h1,h5,h6⟩
   ·obtain⟨v,q⟩:=I3.cell y c e;have:=q.lt
    rw[hC,z] at this;exact vD _ this
   ·have:=vf (I3.pin p hp).1
    rw[hC,z] at this;exact vD _ this
  ·refine thn (T.item (zt X N scope cl s3 H3 fp C) rfl rfl rfl rfl i [] s5 σ5 H5 _ I5 (stat fr5) st5 go) fun r s6 zz=>?_
   obtain⟨u,hr,h6⟩:=zz;subst hr;refine thn h6 fun _ s7 zz=>?_
   obtain⟨v,H7,I7,r7,y7,st7,fr7⟩:=zz;have I7':=I7.pinned (stat fr7) (T.obj _ _ st7);refine thn (hg s3 H3 fp C _ s7 σ5 H7 v u _ I7' r7<|step v H7 y7) fun _ s8 zz=>?_
   obtain⟨σ8,H8,I8,q8⟩:=zz;refine thn (ht s3 H3 fp C _ s8 σ8 H8 _ I8 q8) fun b s9 zz=>?_
   obtain⟨H9,I9,q9⟩:=zz;have again:∀{sE:Ac}{HE:Hp}{m':Nat},Inv (zt X N scope cl s3 H3 fp C) ([]++Qv fp s7.heap) σ8 HE sE->m' < n->W (i+1) m' σ8 HE->∃m,m < n/\∃i σ' H',Inv (zt X N scope cl s3 H3 fp C) [] σ' H' sE/\tn i sE.heap/\(∀b∈fp,H' b=none)/\W i m σ' H':=fun {sE HE m'} IE hm' wE=>by
    refine⟨m',hm',i+1,σ8,HE,IE.unpinned (vY:=[]),T.keep _ _ _ st7 fun b hb o e=>(IE.pin (b,o)<|kN _<|kN _<|qD hb e).1,fun b hb=>?_,wE⟩;obtain⟨o,e,d⟩:=T.obj _ _ st7 b hb;exact (IE.pin (b,o)<|kN _<|kN _<|qD hb e).2.1
   cases b with
  |false=>
    rw[ky ke] at q9 ⊢
    obtain⟨m',hm',w9⟩:=q9;exact again I9 hm' w9
  |true=>
    rw[kz rfl] at q9 ⊢
    refine thn (he s3 H3 fp C D _ s9 σ8 H9 _ I9 q9) fun _ s10 zz=>?_
    obtain⟨H10,I10,q10⟩:=zz;obtain⟨m',hm',w9⟩:=q10;exact again I10 hm' w9
 exact hSt _ _ _ _ _ loop (T.self _ 0 _ _ _ st4 loop)
def z6g{e iter tg:Expr}{emit:Aa->Env->Sem Unit}{newAcc:Sem Ab}{o0:Obj}{u0:Aa->HO}{tm:Aa->St->Hp->(Hp->Prop)->Prop}{ifs:List Expr}{N:List Str}{nt:Nat}{ix:List Nat}{scope:Scope}{cl:List (Str × Aa)}{pos:Pos}{wi:TI}{g:TG}{tc:TT}(hev:eval e X.env=comprehension e scope X.env pos newAcc false (eval iter X.env))(hcl:clausesOf e=[⟨tg,iter,ifs,0⟩])(hTn:∀it D env,z7g e it D env iter tg ifs<|emit D env)(hDn:∀it D env,DenG X.prog X.w e it D env)(hSt:∀it acc env R s,z7I X.prog X.w X.A e it acc env R s)(hnew:∀(s:Ac)(Q:Ab->Ac->Prop),Q (.ref s.heap.objs.size) {s with heap:=s.heap.push o0}->wpAny (model X.prog X.w) X.A newAcc Q X.xe s)(hlay:∀{vY σ H s},Inv X vY σ H s->qq X.prog X.w (upd H s.heap.objs.size<|u0 s.heap.objs.size) (s.heap.push o0) s.heap.objs.size (u0 s.heap.objs.size))(hc:X.calm=true)(sc:zT X N nt ix scope cl)(hi:PI X tg iter wi)(hg:∀(s:Ac)(H:Hp)(fp:List Aa)(C:Aa),PG (zt X N scope cl s H fp C) tg g)(ht:∀(s:Ac)(H:Hp)(fp:List Aa)(C:Aa),PTs (zt X N scope cl s H fp C) ifs tc)(he:∀(s:Ac)(H:Hp)(fp:List Aa)(C D:Aa),PM (zt X N scope cl s H fp C) (emit D<|compEnvC scope cl C X.env)<|tm D)(hs:∀x,foldedSetIterable iter X.env x=pure x):
  PE X e (z7p u0 nt ix wi g tc tm):=by
 intro vY s σ H Q I h;rw[hev];refine wpAny_comprehension_free (use:=none) hcl hs sc.clos sc.kind sc.names (thn (hi vY s σ H _ I h) fun v s1 h1=>thn h1 fun itv s2 h2=>?_);obtain⟨it,fp,tn,J,H2,e,I2,T,st2,f2,q2⟩:=h2;subst e;refine z28 (RR:=fun acc C=>compPost (model X.prog X.w) X.A X.xe none (EP X vY σ Q) acc C) hc sc I2 T st2 f2 hg ht he hTn hDn hSt hnew hlay q2 ?_;intro D C s' H' m I' n' c1 c2 c3 c4 c5 q';exact⟨m,n',fun h' hs'=>⟨.ref D,H',I'.turned (t':=s'.toks) (it:=C) (fun b o hb e=>(hs'.2 b hb).trans e) c2 c1 (.inr c3) c4 c5,rfl,q'⟩⟩
end
section
variable {X:Cx}
def z7n(tk tv:TE):Aa->St->Hp->(Hp->Prop)->Prop:=fun D σ H Q=>tk σ H fun x H1=>tv σ H1 fun y H2=>∃kvs k,x=kV k/\H2 D=some (.dK kvs)/\kvs.length < sizeLine/\Q (upd H2 D<|.dK<|putK kvs k y)
def z89{kx vx:Expr}{tk tv:TE}{D:Aa}{env:Env}(he:env=X.env)(h:PE X kx tk)(h':PE X vx tv):PM X (z2T kx vx D env) (z7n tk tv D):=by
 subst he;intro vY s σ H Q I hq;unfold z2T;refine va (thn (h vY s σ H _ I hq) fun u s1 zz=>?_);obtain⟨x,H1,I1,r1,q1⟩:=zz;refine va (wpAny_holding (thn (h' vY s1 σ H1 _ I1 q1) fun u2 s2 zz=>?_));obtain⟨y,H2,I2,r2,kvs,k,ex,hD,hz,q⟩:=zz;subst ex;refine va (wpAny_standAt<|wpAny_holding ?_);obtain⟨z,hd,vs,rel,dd⟩:=z3I I2.hok hD;have hz':vs.length<=sizeLine:=by rw[<-rel.length];exact z
 have hl:(putK kvs k y).length<=sizeLine:=by have:=qm kvs k y;lia
 refine wpAny_dictSet_pairs (hsz:=hz') (z19 r1) dd fun h1 dd' hs=>⟨_,?_,q⟩
 have hx:∃q,h1.get? D=some q:=let ⟨q,_,_,hq,_⟩:=dd';⟨q,hq⟩;exact I2.write (t':=s2.toks+1) (x:=D) (e:=D) (by rw[hD];exact True.intro) (.inl rfl) (fun b o hb e=>(hs.2 b hb).trans e) hx (z2U hl hd (rel.put k r2) dd')
def z1V{kx vx iter tg:Expr}{ifs:List Expr}{N:List Str}{nt:Nat}{ix:List Nat}{scope:Scope}{cl:List (Str × Aa)}{pos:Pos}{wi:TI}{g:TG}{tc:TT}{tk tv:TE}(hc:X.calm=true)(sc:zT X N nt ix scope cl)(hi:PI X tg iter wi)(hg:∀(s:Ac)(H:Hp)(fp:List Aa)(C:Aa),PG (zt X N scope cl s H fp C) tg g)(ht:∀(s:Ac)(H:Hp)(fp:List Aa)(C:Aa),PTs (zt X N scope cl s H fp C) ifs tc)(hk:∀(s:Ac)(H:Hp)(fp:List Aa)(C:Aa),PE (zt X N scope cl s H fp C) kx tk)(hv:∀(s:Ac)(H:Hp)(fp:List Aa)(C:Aa),PE (zt X N scope cl s H fp C) vx tv)(hs:∀x,foldedSetIterable iter X.env x=pure x:=by intro _;rfl):
  PE X (.DictComp kx vx [⟨tg,iter,ifs,0⟩] scope pos) (z7p (fun _=>.dK []) nt ix wi g tc<|z7n tk tv):=
 z6g (newAcc:=newDict) (o0:={cls:=.type "dict",data:=.dict #[]}) (emit:=z2T kx vx) rfl rfl (fun _ _ _=>z3S) (fun _ _ _=>z79) (fun _ _ _ _ _=>codeAny_compStart_dict) (fun s Q h=>vJ h) (fun I=>z0y _ I.big) hc sc hi hg ht (fun s H fp C D=>z89 rfl (hk s H fp C)<|hv s H fp C) hs
end
section
variable {X:Cx}
def zaE(td:TE):TI:=fun σ H R=>td σ H fun x H1=>∃a kvs,x=.ref a/\H1 a=some (.dK kvs)/\∀o,R (Itd a o kvs) (upd H1 a<|.frz o<|.dK kvs)
def z69{elts:List Expr}{x1}{tp apos cpos:Pos}{o:Expr}{td:TE}(ho:PE X o td)(hbase:autoParam (attributeBase o "items" X.env (eval o X.env)=eval o X.env) aR._auto_1)(hline:autoParam ((apos.endLine == cpos.line)=true) aR._auto_1):
  PI X (.Tuple elts x1 tp) (.Call (.Attribute o "items" apos) [] [] cpos) (zaE td):=by
 intro vY s σ H R I h;refine wpAny_Call_method0_late hbase hline (thn (ho vY s σ H _ I h) fun v s1 zz=>?_);obtain⟨x,H1,I1,r1,a,kvs,ex,ha,q1⟩:=zz;subst ex;cases r1;obtain⟨hz,hsy,vs,rel,dd⟩:=z3I I1.hok ha;obtain⟨ob,es,ep,hob,hex,hdat,r3⟩:=id dd;have hlen:kvs.length=vs.length:=Paired.length rel;refine⟨"dict",_,F.plainAttrs_dict,F.slot_dict_items,F.type_dict_items,⟨ob,hob,hex.1⟩,fun b z=>(by cases z;exact⟨ob,hob,hex.2.1⟩),vF rfl<|PySem.evalArgs_none ?_⟩;refine call_meetsIn F.slot_dict_items dd.typeIs F.entry_dict_items (F.args_dict_items_1 _) (meets_dict_items (zX X.prog X.w) a hsy) ⟨⟨vs,dd⟩,?_⟩;have k2:∀b o,s1.heap.get? b=some o->(s1.heap.push {cls:=.type "dict_items",data:=.fields #[.ref a]}).get? b=some o:=fun b o e=>vb _ e
 have I2:Inv X vY σ H1 {s1 with heap:=s1.heap.push {cls:=.type "dict_items",data:=.fields #[.ref a]} }:=I1.kept (t':=s1.toks) k2;have hm:(s1.heap.push {cls:=.type "dict_items",data:=.fields #[.ref a]}).DictAt (zX X.prog X.w) a vs ep:=⟨ob,es,k2 _ _ hob,hex,hdat,r3⟩
 generalize hs2:({s1 with heap:=s1.heap.push {cls:=.type "dict_items",data:=.fields #[.ref a]} }:Ac)=s2 at *;have hm2:s2.heap.DictAt (zX X.prog X.w) a vs ep:=by rw[<-hs2];exact hm
 have hview:s2.heap.IsItemsView s1.heap.objs.size a:=⟨_,by rw[<-hs2];exact vg _ rfl,rfl,rfl⟩
 refine wpAny_pyIter_items hview hm2 ?_;have k3:∀b o,s2.heap.get? b=some o->(s2.heap.push {cls:=.type "dict_itemiterator",data:=.fields #[.none,.bool false,.ref a,.int 0 0,.int vs.length 0,.int ep 0,.none,.none]}).get? b=some o:=fun b o e=>vb _ e
 have I3:Inv X vY σ H1 {s2 with heap:=s2.heap.push {cls:=.type "dict_itemiterator",data:=.fields #[.none,.bool false,.ref a,.int 0 0,.int vs.length 0,.int ep 0,.none,.none]} }:=I2.kept (t':=s2.toks) k3;have hob3:(s2.heap.push {cls:=.type "dict_itemiterator",data:=.fields #[.none,.bool false,.ref a,.int 0 0,.int vs.length 0,.int ep 0,.none,.none]}).get? a=some ob:=k3 _ _ (by rw[<-hs2];exact k2 _ _ hob);have nf:=I3.nofrz ha (fun _ _=>nofun);have I4:=I3.recast (u':=.frz ob (.dK kvs)) ha (fun _=>nofun) (fun _=>nofun) (fun _=>nofun) nf ⟨hob3,hz,hsy,vs,rel,ob,es,ep,hob3,hex,hdat,r3⟩;have itn:H1 s2.heap.objs.size=none:=I2.fresh;have nea:s2.heap.objs.size≠a:=(zd ha itn).symm;refine⟨s2.heap.objs.size,[s2.heap.objs.size],_,_,_,rfl,I4,Jw a s2.heap.objs.size ob kvs,⟨es,ep,.none,.none,hdat,by rw[hlen];exact vg _ rfl⟩,fun b hb=>?_,q1 ob⟩;have z:b=s2.heap.objs.size:=by simpa using hb
 subst z;exact I2.fpOk (kg _) (by rw[zg nea];exact itn)
end
end L2
namespace My
open L2
variable {P:Program}{w:World}{K:ku}{mg:Str->Option Ab}{base:Heap}
structure KeyI(kvs:List (Key × V)):Prop where
 nd:(kvs.map (·.1)).Nodup
 int:∀p∈kvs,∃m:Int,p.1=Sum.inl m
def KeyI.nil:KeyI []:=⟨List.nodup_nil,fun p hp=>by cases hp⟩
def z5O{kvs:List (Key × V)}{k:Key}(h:valV kvs k=none):k∉kvs.map (·.1):=by
 intro hm;obtain⟨p,hp,rfl⟩:=yf.mp hm;unfold valV at h;have:=List.find?_eq_none.mp (Option.map_eq_none_iff.mp h) p hp
 simp at this
def KeyI.put{kvs:List (Key × V)}(h:KeyI kvs){m:Int}{v:V}(hv:valV kvs (Sum.inl m:Key)=none):KeyI (putK kvs (Sum.inl m) v):=by
 rw[z2x _ hv];refine⟨?_,fun p hp=>?_⟩
 ·rw[kK,Aq];refine⟨h.nd,by simp,fun x hx y hy=>?_⟩;have:y=Sum.inl m:=by simpa using hy
  subst this;exact fun e=>z5O hv (e▸hx)
 ·rcases kS.mp hp with hp|hp
  ·exact h.int p hp
  ·rw[ko.mp hp];exact⟨m,rfl⟩
def z7i:∀{kvs:List (Key × V)},(kvs.map (·.1)).Nodup->∀{p:Key × V},p∈kvs->valV kvs p.1=some p.2
|[],_,p,hp=>by cases hp
|q::kvs,hn,p,hp=>by
  rw[kU,List.nodup_cons] at hn;rcases kE.mp hp with rfl|hp
  ·unfold valV;simp
  ·have:¬q.1=p.1:=fun e=>hn.1 (e▸yf.mpr ⟨p,hp,rfl⟩)
   have h2:=z7i hn.2 hp;unfold valV at h2 ⊢
   rw[List.find?_cons_of_neg<|by simpa using this];exact h2
section
inductive z1H(K:ku)(vs:List V)(H:Hp)(Q:VK)(E:XK):Prop
|mk (l:_) (as:_) (rs:_):vs=[.ref l]->SqL K H l (as.map V.ref)->zI H as rs->(∀r∈rs,jX r)->rs.length<=1000->(∀d kvs H',H d=none->Same H H'->H' d=some (.dK kvs)->KeyI kvs->kvs.length<=rs.length->jN kvs rs->Q (.ref d) H')->z1H K vs H Q E
def z73(D:zn K mg "label_places" (top 29))(G:Glo mg)(FR:FN P w K mg base 6 "is_row" Vc z5S):FN P w K mg base 7 "label_places" ["rows"] (z1H K):=by
 refine FN.o D sc29 ?_;rintro _ _ _ _ _ H _ _ _ hr ⟨l,as,rs,rfl,hS,hR,hok,hlen,q⟩;refine⟨_,z6 (zM 1 sc29.nd QN)
  (z6 (qQ vo rfl (z0a rfl G.enumerate<|pa1<|pv 0) (Z7 rfl<|zu (zL 2 sc29.nd)<|zu (zL 3 sc29.nd) qt)
   (z8 (zV (PW.pt<|z2w (qH<|zk FR hr rfl<|pa1<|pv 3)<|z06<|zo qX (zG qg (pv 3) zb) zh<|zy _)
    (z8<|zi<|J4 (pv 1) (zG qg (pv 3) zb) (pv 2) ⟨rfl,rfl,rfl,rfl⟩) zC)))
  (z8<|zl<|pv 1)),?_⟩
 symm
 intro d hd;have hll:as.length=rs.length:=hR.len;have hml:(as.map V.ref).length=rs.length:=by rw[kl];exact hll
 refine⟨l,rfl,⟨_,(ze hd _).seq hS⟩,QO (K:=K) (a:=l) (xs:=as.map V.ref) (fun i σ H2=>∃kvs v2 v3,σ=[some<|.ref l,some<|.ref d,v2,v3]/\Same H H2/\H2 d=some (.dK kvs)/\kvs.length<=i/\KeyI kvs/\jN kvs (rs.take i))
  ⟨[],none,none,rfl,ze hd _,z7,kg _,KeyI.nil,fun m=>by rw[List.take_zero];rfl⟩ (fun i σ H2 _ zz=>by obtain⟨_,_,_,_,s2,_⟩:=zz;exact s2.seq hS) ?_ ?_⟩
 ·rintro i x σ H2 p hi ⟨kvs,v2,v3,rfl,s2,hD,hk,hI,hL⟩ hp;obtain⟨a,r,rfl,hr1,ha⟩:=(hR.same s2).get hi;have hil:i < rs.length:=(kh.mp hr1).1;have npd:d≠p:=zd hD hp;have nap:a≠p:=zd ha hp;have ha':(upd H2 p<|.tup [.int i,.ref a]) a=some (.tup<|tupV r):=by rw[zg nap];exact ha
  have s3:Same H (upd H2 p<|.tup [.int i,.ref a]):=fun b o e=>by rw[zg<|zd (s2 b o e) hp];exact s2 b o e
  obtain⟨so,hs,hfit,hl0,hl1,hop,hsc⟩:=(hok r<|kH hr1).parts;have hrow:rowV r.op r.arg (.int r.line)=true:=hok r (kH hr1);refine⟨p,_,rfl,SqT.of z7,rfl,_,_,rfl,_,_,rfl,rfl,?_⟩;refine (.inr ⟨a,r.op,r.arg,.int r.line,rfl,ha',hop,hsc,.int _,_,rfl,?_⟩);rw[hrow];refine iteT ⟨a,_,_,_,rfl,rfl,SqT.of ha',zm (j:=0) rfl,rfl,_,rfl,?_⟩;have hD':(upd H2 p<|.tup [.int i,.ref a]) d=some (.dK kvs):=by rw[zg npd];exact hD
  refine ite2 (fun c=>?_) (fun c=>?_)
  ·have eop:r.op="label":=by
    have:=kD c
    injection this
   have esort:so="mark":=by
    rw[eop] at hs;have:zx "label"=some "mark":=vW
    rw[this] at hs;exact (kC hs).symm
   rw[esort] at hfit;obtain⟨m,em,_,_⟩:=Z4 hfit;refine⟨d,rfl,.inl ⟨kvs,.inl hD'⟩,a,_,_,_,rfl,rfl,SqT.of ha',zm (j:=1) rfl,kvs,Sum.inl m,hD',em,zF (by lia),?_⟩;have eP:labP m r=true:=by unfold labP;rw[eop,em];simp
   cases hv:valV kvs (Sum.inl m:Key) with
  |some v=>
    refine⟨kvs,_,_,rfl,s3,hD',by lia,hI,fun m'=>?_⟩;rw[jK hr1 m',hL m'];by_cases e:m'=m
    ·subst e;have:=hL m'
     rw[hv] at this;cases h1:zA (rs.take i) m' with
    |none=>rw[h1] at this;cases this
    |some j=>rfl
    ·have:labP m' r=false:=by
      unfold labP;rw[em];have:¬(V.int m=V.int m'):=fun z=>e (by injection z with z;exact z.symm)
      simp[this]
     rw[this];simp
  |none=>
    refine⟨putK kvs (Sum.inl m)<|.int i,_,_,rfl,fun b o e=>?_,z7,?_,hI.put hv,fun m'=>?_⟩
    ·rw[zg<|zd e hd];exact s3 b o e
    ·have:=qm kvs (Sum.inl m:Key) (V.int i)
     lia
    ·rw[Zl,jK hr1 m'];by_cases e:m'=m
     ·subst e;have:=hL m'
      rw[hv] at this;rw[kz rfl,eP,kz rfl];cases h1:zA (rs.take i) m' with
     |none=>rfl
     |some j=>rw[h1] at this;cases this
     ·have:labP m' r=false:=by
       unfold labP;rw[em];have:¬(V.int m=V.int m'):=fun z=>e (by injection z with z;exact z.symm)
       simp[this]
      rw[this,ky (fun z=>e<|by injection z),hL m'];simp
  ·refine⟨kvs,_,_,rfl,s3,hD',by lia,hI,fun m'=>?_⟩;rw[jK hr1 m',hL m'];have:labP m' r=false:=by
    unfold labP;have:¬(r.op="label"):=fun z=>c (by rw[z];rfl)
    simp[this]
   rw[this];simp
 ·rintro σ H2 ⟨kvs,v2,v3,rfl,s2,hD,hk,hI,hL⟩;refine (q d kvs H2 hd s2 hD hI (by rw[hml] at hk;exact hk) ?_);rw[hml,vC] at hL;exact hL
def z4P{rs:List Row}{m:Int}{j:Nat}(h:zA rs m=some j):j < rs.length:=by
 unfold zA at h;obtain⟨hl,_⟩:=List.findIdx?_eq_some_iff_getElem.mp h;exact hl
def z1N{ys:List V}(R:Nat->Aa->Prop)(h:∀(i:Nat) v,ys[i]?=some v->∃a,v=.ref a/\R i a):∃as:List Aa,ys=as.map V.ref/\∀(i:Nat) a,as[i]?=some a->R i a:=by
 induction ys generalizing R with
|nil=>exact⟨[],rfl,fun i a e=>by simp at e⟩
|cons y ys ih=>
  obtain⟨a,rfl,ha⟩:=h 0 y rfl;obtain⟨as,rfl,has⟩:=ih (fun i a=>R (i+1) a) fun i v e=>h (i+1) v (by simpa using e)
  refine⟨a::as,rfl,fun i b e=>?_⟩;cases i with
 |zero=>cases e;exact ha
 |succ i=>exact has i b (by simpa using e)
noncomputable abbrev N86:List Str:=["code","consts","names","sizes","firsts","goals"]
def sc86:zj N86 ["code","consts","names","sizes"] (zc<|top 86):=fsM
noncomputable def zan(k:Nat):Stmt:=(zR<|top 86).getD k (.Pass ⟨0,0,0,0⟩)
noncomputable def z98:Scope:=match zan 1 with
|.Assign _ (.DictComp _ _ _ s _) _=>s
|_=>zc (top 86)
noncomputable def z97:Scope:=match zan 2 with
|.Return (some<|.ListComp _ _ s _) _=>s
|_=>zc (top 86)
noncomputable def z9d(L:Aa):List (Str × Aa):=[("firsts",L+3)]
noncomputable def zbx:List (Str × NameKind):=[(".0",.local),("mark",.local),("place",.local),("firsts",.cell)]
noncomputable def z9c(L:Aa):List (Str × Aa):=[("names",L+2),("goals",L+4),("consts",L+1)]
noncomputable def zbw:List (Str × NameKind):=[(".0",.local),("row",.local),("makes_units",.globalImplicit),("digits_of",.globalImplicit),("number_for",.globalImplicit),("BASE",.globalImplicit),("consts",.cell),("goals",.cell),("names",.cell)]
def zc0{f:Aa}{cdv:Ab}{A:Around}{vZ:List Env}{s:Ac}{H:Hp}{E:XK}:
  zT (cxOf CX0 P w K mg base N86 "digits_by" (zc<|top 86) f cdv A vZ s H E).nox ["mark","place","firsts"] 2 [4] z98 (z9d s.heap.objs.size):=
 zT.mk3 (nm:=zbx) (ks:=(z9d 0).map Prod.fst) rfl rfl ⟨vW,vW⟩ rfl rfl rfl vW rfl rfl rfl rfl
def zbZ{f:Aa}{cdv:Ab}{A:Around}{vZ:List Env}{s:Ac}{H:Hp}{E:XK}:
  zT (cxOf CX0 P w K mg base N86 "digits_by" (zc<|top 86) f cdv A vZ s H E).nox ["row","consts","goals","names"] 1 [1,5,2] z97 (z9c s.heap.objs.size):=
 zT.mk3 (nm:=zbw) (ks:=(z9c 0).map Prod.fst) rfl rfl ⟨vW,vW⟩ rfl rfl rfl vW rfl rfl rfl rfl
def zaf:(["mark","place","firsts"]:List Str).Nodup:=vW
def zby:(["row","consts","goals","names"]:List Str).Nodup:=vW
inductive z1I(P:Program)(w:World)(K:ku)(vs:List V)(H:Hp)(Q:VK)(E:XK):Prop
|mk (l dc dn sl:Aa) (as:List Aa) (rs:List Row) (S:List Nat):vs=[.ref l,.ref dc,.ref dn,.ref sl]->SqL K H l (as.map V.ref)->zI H as rs->Code rs->NumD P w H rs dc dn->SqL K H sl (zw S)->S.length=rs.length->(∀x∈S,x<=3)->(∀p das H',Same H H'->H p=none->H' p=some (.lst<|das.map V.ref)->Qr H' das (jV (numF rs) S)->Q (.ref p) H')->z1I P w K vs H Q E
def JI(kvs gvs:List (Key × V))(rs:List Row)(S:List Nat)(i:Nat):Prop:=∀j,j < i->∀(m:Int) v,kvs[j]?=some (Sum.inl m,v)->valV gvs (Sum.inl m:Key)=some (.int ((jm rs S m:Nat):Int))
def JI.put{kvs gvs:List (Key × V)}{rs:List Row}{S:List Nat}{i:Nat}{m:Int}{v:V}(hi:kvs[i]?=some (Sum.inl m,v))(h:JI kvs gvs rs S i):JI kvs (putK gvs (Sum.inl m)<|.int ((jm rs S m:Nat):Int)) rs S (i+1):=by
 intro j hj m' v' e;rw[Zl];by_cases z:m'=m
 ·subst z;rw[kz rfl]
 ·rw[ky fun y=>z<|by injection y];by_cases je:j=i
  ·subst je;rw[hi] at e;injection e with e
   injection e with e _
   injection e with e
   exact vd e.symm z
  ·exact h j (by lia) m' v' e
def JI.fin{kvs gvs:List (Key × V)}{rs:List Row}{S:List Nat}(hL:jN kvs rs)(h:JI kvs gvs rs S kvs.length):zb9 gvs rs S:=by
 intro m j hj;have e:=hL m;rw[hj] at e;unfold valV at e;obtain⟨p,hp,hp2⟩:=Ad.mp e;have h1:p.1=Sum.inl m:=by simpa using List.find?_some hp
 obtain⟨i,hi⟩:=List.mem_iff_getElem?.mp (List.mem_of_find?_eq_some hp);obtain⟨k,v⟩:=p;have h1:k=Sum.inl m:=h1;subst h1;have:=h i (kh.mp hi).1 m v hi
 rw[this];unfold jm;rw[hj];rfl
def z74(D:zn K mg "digits_by" (top 86))(GU:GloU mg)(FF:FN P w K mg base 1 "first_units" ["sizes"] (z5U K))(FL:FN P w K mg base 7 "label_places" ["rows"] (z1H K))(FM:FN P w K mg base 1 "makes_units" ["row"] spMU)(FD:FN P w K mg base 1 "digits_of" ["number","base"] JZ)(FN':FN P w K mg base 2 "number_for" ["row","consts","names","goals"] (JV P w K)):FN P w K mg base 8 "digits_by" ["code","consts","names","sizes"] (z1I P w K):=by
 refine FN.o D sc86 ?_;rintro _ _ A _ s H _ _ _ hr ⟨l,dc,dn,sl,as,rs,S,rfl,hl,hR,hc,hN,hsl,hSl,hS3,q⟩;have hr1:=hr.mono (vW:1<=7);have hr2:=hr.mono (vW:2<=7);have hhi:=hc.hi;have hal:as.length=rs.length:=Paired.length hR;refine⟨_,z6 (jR (i:=4) sc86.nd rfl (Or.inr rfl)<|zk FF hr1 rfl<|pa1<|pv 3)
  (z6 (jR (i:=5) sc86.nd rfl (Or.inr rfl) (z1V (N:=["mark","place","firsts"]) (nt:=2) (ix:=[4]) (cl:=z9d s.heap.objs.size) rfl zc0 (z69<|zk FL hr rfl<|pa1<|pv 0)
    (fun _ _ _ _=>Z0 (K:=K) (n:=2) rfl rfl<|zu (zL 0 zaf)<|zu (zL 1 zaf) qt) (fun _ _ _ _=>qr) (fun _ _ _ _=>pv 0) (fun _ _ _ _=>zG (z0r (K:=K) rfl) (pv 2)<|pv 1)))
  (z8 (zl (ql (N:=["row","consts","goals","names"]) (nt:=1) (ix:=[1,5,2]) (cl:=z9c s.heap.objs.size) rfl zbZ (qy<|pv 0) (fun _ _ _ _=>zL 0 zby) (fun _ _ _ _=>qr)
   (fun _ _ _ _=>j9 (qH<|zk FM hr1 rfl<|pa1<|pv 0) (zk FD hr1 rfl<|pa2 (zk FN' hr2 rfl<|zf (pv 0)<|pa3 (pv 1) (pv 3)<|pv 2)<|qU rfl GU.base)<|zO qC))))),?_⟩
 symm
 refine⟨sl,S,rfl,hsl,by lia,fun fl H1 s1 _ hfl=>?_⟩;refine⟨l,as,rs,rfl,s1.seq hl,hR.same s1,hc.ok,by lia,fun ld kvs H2 hld s2 hld2 hI hkl hL=>?_⟩;have s12:=s1.trans s2;refine⟨ld,kvs,rfl,hld2,fun o gd hgd=>?_⟩;have hld0:H ld=none:=s1.free hld;have ngl:gd≠ld:=fun z=>by rw[z,z7] at hgd;cases hgd
 have hgd2:H2 gd=none:=by rw[zg ngl] at hgd;exact hgd
 have sF:Same H (upd H2 ld<|.frz o<|.dK kvs):=My.Same.upd s12 hld0 _;have hfl2:(upd H2 ld<|.frz o<|.dK kvs) fl=some (.lst<|zw<|(List.range S.length).map<|fstU S):=by
  rw[zg fun z=>by have:=s2 _ _ hfl;rw[z,hld2] at this;cases this];exact s2 _ _ hfl
 have hldF:(upd H2 ld<|.frz o<|.dK kvs) ld=some (.frz o<|.dK kvs):=z7;have hNF:=hN.same sF;have hlF:=sF.seq hl;have hRF:=hR.same sF;generalize upd H2 ld (.frz o<|.dK kvs)=HF at *;refine⟨fun i m σ' H3=>m=kvs.length - i/\i<=kvs.length/\(∃x y:Option V,σ'=[x,y,some<|.ref fl])/\Same HF H3/\∃gvs,H3 gd=some (.dK gvs)/\gvs.length<=i/\JI kvs gvs rs S i,⟨kvs.length,rfl,vj _,⟨none,none,rfl⟩,ze hgd _,[],z7,kg _,fun j hj=>vd hj<|Nat.not_lt_zero _⟩,?_⟩;rintro i m σ' H3 ⟨rfl,hi,⟨x0,y0,rfl⟩,s3,gvs,hg3,hgl,hU⟩;by_cases hlt:i < kvs.length
 ·refine .inr ⟨⟨s3 _ _ hldF,hlt⟩,fun x H4 y=>?_⟩;obtain⟨p,k,v,rfl,hp,hkv,rfl⟩:=y;obtain⟨m,rfl⟩:∃m:Int,k=Sum.inl m:=hI.int _ (kH hkv);have hv:valV kvs (Sum.inl m:Key)=some v:=z7i hI.nd (p:=(Sum.inl m,v)) (kH hkv);rw[hL m] at hv;obtain⟨j,hj,rfl⟩:=Ad.mp hv;have hjl:j < rs.length:=z4P hj;have s4:=ze hp (.tup [kV<|Sum.inl m,.int (j:Int)]);refine⟨p,_,rfl,SqT.of z7,rfl,_,_,rfl,_,_,rfl,rfl,?_⟩;have ngp:gd≠p:=zd hg3 hp;refine JM ⟨fl,_,_,_,rfl,rfl,SqL.of<|s4 _ _<|s3 _ _ hfl2,zm (j:=j) (v:=.int ((fstU S j:Nat):Int)) ?_,gvs,Sum.inl m,rfl,s4 _ _ hg3,zF (by lia),kvs.length - (i+1),by lia,rfl,hlt,⟨_,_,rfl⟩,?_,_,z7,?_,?_⟩
  ·unfold zw;rw[Ak,vh,An<|by lia];rfl
  ·exact My.Same.upd (s3.trans s4) hgd _
  ·have:=qm gvs (Sum.inl m:Key) (V.int ((fstU S j:Nat):Int))
   lia
  ·have:=hU.put hkv
   have e:jm rs S m=fstU S j:=by unfold jm;rw[hj];rfl
   rw[e] at this;exact this
 ·have e:i=kvs.length:=by lia
  subst e;refine .inl ⟨⟨s3 _ _ hldF,kg _⟩,?_⟩;have hG:=hU.fin hL;have hN3:=hNF.same s3;have s03:=sF.trans s3;obtain⟨g1,g2,g3⟩:=Ze (K:=K) (s3.seq hlF);have hR3:=hRF.same s3;refine⟨l,rfl,⟨_,s3.seq hlF⟩,fun p hp=>jy (n:=(as.map V.ref).length) (fun σ=>∃x:Option V,σ=[x,some<|.ref dc,some<|.ref gd,some<|.ref dn]) (fun i x _=>(as.map V.ref)[i]?=some x)
   (fun i v H4=>∃a,v=.ref a/\a≠p/\∃d,(jV (numF rs) S)[i]?=some d/\H4 a=some (.lst<|zw d)) (by rw[kl];lia) hp ⟨none,rfl⟩ g1 g2 g3 ?_ ?_ ?_⟩
  ·rintro i v H4 H5 ⟨a,rfl,na,d,hd,ha⟩ k;exact⟨a,rfl,na,d,hd,k _ _ ha na⟩
  ·rintro i x σ' H4 A hi s4 hp4 hY ⟨x1,rfl⟩ k;obtain⟨a,r,rfl,hr',ha⟩:=z2t hR3 hY;have ha4:=s4 _ _ ha;have hdg:(jV (numF rs) S)[i]?=some (dgO (if inT r.op opsU=true then some (numR (csOf rs) (nsOf rs) (jm rs S) r) else none)):=by
    unfold jV numF;rw[Ak,vh,hr'];rfl
   have fresh:∀{q:Aa},H4 q=none->q≠p:=fun e z=>hp4 (z▸e)
   refine⟨a,r,rfl,ha4,_,rfl,?_⟩;refine ite2 (fun c=>?_) (fun c=>?_)
   ·refine⟨a,dc,dn,gd,rs,r,S,gvs,rfl,ha4,hc,kH hr',c,hN3.same s4,s4 _ _ hg3,hG,fun H5 s5=>?_⟩;have hlt4:numR (csOf rs) (nsOf rs) (jm rs S) r < 4096:=by
     refine (Qj hc).lt S hSl hS3 _ ?_;unfold numF;exact yf.mpr ⟨r,kH hr',by rw[kz c]⟩
    refine⟨_,rfl,hlt4,fun q H6 s6 hq hq6=>k _ _ H6 ⟨_,rfl⟩ (s5.trans s6) ⟨q,rfl,fresh<|s5.free hq,_,hdg,?_⟩⟩;rw[kz c];exact hq6
   ·refine⟨vj _,fun q hq=>k _ _ _ ⟨_,rfl⟩ (ze hq _) ⟨q,rfl,fresh hq,_,hdg,?_⟩⟩;rw[ky c];exact z7
  ·intro ys H4 s4 h4 hlen4 hR4;obtain⟨das,rfl,hdas⟩:∃das:List Aa,ys=das.map V.ref/\Qr H4 das (jV (numF rs) S):=by
    refine z1N (fun i a=>∃d,(jV (numF rs) S)[i]?=some d/\H4 a=some (.lst<|zw d)) (fun i v e=>by obtain⟨a,rfl,_,d,h1,h2⟩:=hR4 i v e;exact⟨a,rfl,d,h1,h2⟩) |>.elim fun das h=>⟨das,h.1,jD ?_ fun j a d e1 e2=>?_⟩
    ·have:=vI List.length h.1
     rw[kl] at this;rw[<-this,hlen4,kl,hal];unfold jV numF;rw[kl,kl]
    ·obtain⟨d',h1,h2⟩:=h.2 j a e1;rw[e2] at h1;cases h1;exact h2
   exact q p das H4 (s03.trans s4) (s03.free hp) h4 hdas
end
end My
namespace L2
inductive z9T(K:ku)(x:V)(y:V)(H:Hp)(Q:VK):Prop
|mk (p q:Aa) (ns ms:List Int):x=.ref p->y=.ref q->SqL K H p (ns.map V.int)->SqL K H q (ms.map V.int)->ns.length=ms.length->Q (.bl<|!decide (ns=ms)) H->z9T K x y H Q
def z5H{ss ss':List Int}(h:ss.length=ss'.length):((List.range ss.length).all fun j=>decide (ss[j]?=ss'[j]?))=decide (ss=ss'):=by
 rw[vT,List.all_eq_true,decide_eq_true_iff];constructor
 ·intro z;refine Af fun j=>?_
  by_cases hj:j < ss.length
  ·exact kD (z j<|List.mem_range.mpr hj)
  ·rw[vp (by lia),vp<|by lia]
 ·rintro rfl j _;exact kj rfl
def z8e{X:Cx}(hu:X.A.units < cLine):OpR X (compareOp .NotEq) (z9T X.K):=by
 intro vY s σ H x y v u Q I rx ry h;obtain⟨l,l',ss,ss',rfl,rfl,hl,hl',hlen0,q⟩:=h;cases rx;cases ry;obtain⟨its,rv,pl,_⟩:=I.list hl;have hlen:=rv.length;rw[kl] at hlen;obtain⟨its',rv',pl',_⟩:=I.list hl';have hlen':=rv'.length;rw[kl] at hlen';have hz:its.length=its'.length:=by lia
 have e0:((List.range its.toArray.size).all fun j=>decide (ss[j]?=ss'[j]?))=decide (ss=ss'):=by
  rw[kF,<-hlen];exact z5H hlen0
 refine SeqAt.RcNeAt.lists (e:=fun j=>decide (ss[j]?=ss'[j]?)) pl.isList pl'.isList (by simpa using hz) hu (fun j h1 h2=>?_) X.prog X.w X.xe _ ⟨.bl _,H,I,rfl,by rw[e0];exact q⟩;have h1:j < its.length:=by simpa using h1
 have h2:j < its'.length:=by simpa using h2
 have k1:j < ss.length:=by lia
 have k2:j < ss'.length:=by lia
 obtain⟨u,e1,t,r1⟩:=rv.get (show (ss.map V.int)[j]?=some (.int ss[j]) by simp[k1]);obtain⟨u',e2,t',r2⟩:=rv'.get (show (ss'.map V.int)[j]?=some (.int ss'[j]) by simp[k2]);have f1:its.toArray[j]=.int ss[j] t:=by
  have:=kL h1
  rw[e1] at this;rw[<-r1];simpa using (kC this).symm
 have f2:its'.toArray[j]=.int ss'[j] t':=by
  have:=kL h2
  rw[e2] at this;rw[<-r2];simpa using (kC this).symm
 rw[f1,f2];have e3:decide (ss[j]?=ss'[j]?)=(ss[j] == ss'[j]):=by
  rw[kL k1,kL k2,vT];simp
 rw[e3];exact SeqAt.EqAt.int_int _ _ _ _
end L2
namespace My
open L2
variable {P:Program}{w:World}{K:ku}{mg:Str->Option Ab}{base:Heap}
def itT{c:Bool}{a b:Prop}(h:c=true)(x:a):if c=true then a else b:=by rw[kz h];exact x
def itF{c:Bool}{a b:Prop}(h:c=false)(x:b):if c=true then a else b:=by rw[ky<|by rw[h];exact ke];exact x
section
inductive z7X(P:Program)(w:World)(K:ku)(vs:List V)(H:Hp)(Q:VK)(E:XK):Prop
|mk (l dc dn:Aa) (as:List Aa) (rs:List Row):vs=[.ref l,.ref dc,.ref dn]->SqL K H l (as.map V.ref)->zI H as rs->Code rs->NumD P w H rs dc dn->(∀p das S H',Same H H'->H p=none->H' p=some (.lst<|das.map V.ref)->Qr H' das (jV (numF rs) S)->Zr (numF rs) rs.length S->Q (.ref p) H')->z7X P w K vs H Q E
def sc87:zj ["code","consts","names","sizes","digits"] ["code","consts","names"] (zc<|top 87):=fsM
def z10(S:List Nat):zw S=(S.map Int.ofNat).map V.int:=by unfold zw;rw[Ak];rfl
def z2H(n:Nat):∀k:Nat,(List.replicate k [V.int 0]).flatten=zw (List.replicate k 0)
|0=>rfl
|k+1=>by
  rw[vG,vV,z2H n k];rfl
def z4B{S T:List Nat}(h:S.map Int.ofNat=T.map Int.ofNat):S=T:=by
 refine List.map_inj_right (f:=Int.ofNat) (fun x y e=>?_) |>.mp h
 injection e
def zaT(D:zn K mg "fewest_digits" (top 87))(G:Glo mg)(FB:FN P w K mg base 8 "digits_by" ["code","consts","names","sizes"] (z1I P w K))(FZ:FN P w K mg base 1 "sized" ["digits"] (JS K)):FN P w K mg base 9 "fewest_digits" ["code","consts","names"] (z7X P w K):=by
 refine FN.o D sc87 ?_;rintro f cdv A _ s H _ _ _ hr ⟨l,dc,dn,as,rs,rfl,hl,hR,hc,hN,q⟩;have hr1:=hr.mono (vW:1<=8);have hhi:=hc.hi;have hal:as.length=rs.length:=Paired.length hR;have hu0:(A.deeper<|envOfC "fewest_digits" (zc<|top 87) s.heap.objs.size f cdv).units < cLine:=by have:=hr.un;lia
 refine⟨_,z6 (zM 3 sc87.nd<|zE z4w (zO<|pa1 zb)<|zq zr rfl G.len zK<|pa1<|pv 0)
  (z6 (zM 4 sc87.nd<|zk FB hr rfl<|zf (pv 0)<|pa3 (pv 1) (pv 2)<|pv 3)
  (z6 (ZQ vo (zo (z8e hu0) (zk FZ hr1 rfl<|pa1<|pv 4) (pv 3)<|zy _)
   (z6 (zM 3 sc87.nd<|zk FZ hr1 rfl<|pa1<|pv 4)
   (z8<|zM 4 sc87.nd<|zk FB hr rfl<|zf (pv 0)<|pa3 (pv 1) (pv 2)<|pv 3)))
  (z8<|zl<|pv 4))),?_⟩
 symm
 have hNf:=Qj hc;have hdl:∀S,(jV (numF rs) S).length=rs.length:=fun S=>by unfold jV numF;rw[kl,kl]
 refine⟨vX,fun p0 hp0=>?_⟩;have s0:=ze hp0 (.lst [.int 0]);refine⟨l,_,rfl,.inl<|s0.seq hl,p0,(as.length:Int),_,rfl,by rw[kl],z7,by lia,by lia,by rw[ya];show 1 * as.length<=_;rw[sizeLine_eq];lia,fun p1 hp1=>?_⟩;have s1:=s0.trans (ze hp1<|.lst<|(List.replicate (as.length:Int).toNat [V.int 0]).flatten);have e1:(upd (upd H p0<|.lst [.int 0]) p1<|.lst<|(List.replicate (as.length:Int).toNat [V.int 0]).flatten) p1=some (.lst<|zw<|List.replicate rs.length 0):=by
  rw[z7,ya,z2H 0,hal]
 generalize upd (upd H p0<|.lst [.int 0]) p1 (.lst<|(List.replicate (as.length:Int).toNat [V.int 0]).flatten)=H1 at *;refine⟨l,dc,dn,p1,as,rs,List.replicate rs.length 0,rfl,s1.seq hl,hR.same s1,hc,hN.same s1,SqL.of e1,vk ..,fun x hx=>by rw[(List.mem_replicate.mp hx).2];decide,fun dl das H2 s2 hdl2 hd2 hD2=>?_⟩;have s12:=s1.trans s2;refine⟨fun m σ H3=>∃(sl dl:Aa)(das:List Aa)(S:List Nat),m=3 * rs.length - S.sum/\σ=[some<|.ref l,some<|.ref dc,some<|.ref dn,some<|.ref sl,some<|.ref dl]/\Same H H3/\H dl=none/\H3 sl=some (.lst<|zw S)/\H3 dl=some (.lst<|das.map V.ref)/\Qr H3 das (jV (numF rs) S)/\Grow (numF rs) rs.length S,
  ⟨_,p1,dl,das,_,rfl,rfl,s12,s1.free hdl2,s2 _ _ e1,hd2,hD2,Grow.start hNf⟩,?_⟩
 rintro m σ H3 ⟨sl,dl,das,S,rfl,rfl,s3,hdn,hsl3,hd3,hD3,hg⟩;refine⟨dl,das,_,rfl,SqL.of hd3,hD3,by rw[hdl];lia,fun z H4 s4 hz hz4=>?_⟩;have hz4:H4 z=some (.lst<|zw<|szs (numF rs) S):=hz4;refine⟨z,sl,(szs (numF rs) S).map Int.ofNat,S.map Int.ofNat,rfl,rfl,by rw[<-z10];exact SqL.of hz4,by rw[<-z10];exact SqL.of (s4 _ _ hsl3),by rw[kl,kl,hg.up.1],_,rfl,?_⟩;have s34:=s3.trans s4;by_cases e:szs (numF rs) S=S
 ·refine itF (by rw[e];simp) ?_;exact q dl das S H4 s34 hdn (s4 _ _ hd3) (Qr.same hD3 s4) (hg.fin e)
 ·have ne:¬(szs (numF rs) S).map Int.ofNat=S.map Int.ofNat:=fun y=>e (z4B y)
  refine itT (by simpa using ne) ⟨_,fun σ' H' h=>h,?_⟩;refine⟨dl,das,_,rfl,SqL.of<|s4 _ _ hd3,Qr.same hD3 s4,by rw[hdl];lia,fun z2 H5 s5 hz2 hz5=>?_⟩;have hz5:H5 z2=some (.lst<|zw<|szs (numF rs) S):=hz5;have s35:=s34.trans s5;have g2:=hg.next hNf;refine⟨l,dc,dn,z2,as,rs,szs (numF rs) S,rfl,s35.seq hl,hR.same s35,hc,hN.same s35,SqL.of hz5,g2.len,g2.le3,fun dl2 das2 H6 s6 hdl6 hd6 hD6=>?_⟩;exact⟨3 * rs.length - (szs (numF rs) S).sum,hg.more e,z2,dl2,das2,_,rfl,rfl,s35.trans s6,s35.free hdl6,s6 _ _ hz5,hd6,hD6,g2⟩
end
end My
namespace L2
def z2L{prog:Program}{w:World}{A:Around}{E:Ab->Ac->Prop}{s:Ac}{x:Ab}{items:Array Ab}{e:Ab->Bool}{j:Nat}(hj:j < items.size)(hit:e items[j]=true)(hno:∀m (hm:m < items.size),m < j->e items[m]=false)(he:∀y,y∈items->SeqAt.EqAt A s y x (e y)){Q:Option PySem.Fin × Unit->Ac->Prop}(h:Q (some<|.done<|.ret<|.int j s.toks,()) {s with toks:=s.toks+1}):
  ∀(k i n:Nat),i+k=j->j < i+n->wpAny (model prog w) A (forIn (List.range' i n) ((none:Option PySem.Fin),()) (fun (i:Nat) _=>match items[i]? with
  |some y=>do
    let __do_lift <-eqBool y x
    if __do_lift=true then do
     let __do_lift <-retInt ((i:Nat):Int)
     pure (ForInStep.done (some __do_lift,()))
    else pure (ForInStep.yield (none,()))
  |_=>pure<|ForInStep.yield (none,()))) Q E s
|k,i,0,h1,h2=>by lia
|0,i,n+1,h1,h2=>by
  have h1:i=j:=by lia
  subst h1;rw[List.range'_succ,List.forIn_cons,Array.getElem?_eq_getElem hj];refine va (va<|he _ (Array.getElem_mem hj) prog w _ _ ?_);rw[hit,kz rfl];exact va (va<|wpAny_mkInt<|ve<|ve<|ve h)
|k+1,i,n+1,h1,h2=>by
  have hi:i < items.size:=by lia
  rw[List.range'_succ,List.forIn_cons,Array.getElem?_eq_getElem hi];refine va (va<|he _ (Array.getElem_mem hi) prog w _ _ ?_);rw[hno i hi (by lia),ky ke];exact ve (z2L hj hit hno he h k (i+1) n (by lia)<|by lia)
def JL(l:Aa)(items:Array Ab)(n:Nat)(dd:Option Aa)(sl:Array (Option Ab))(x:Ab)(e:Ab->Bool)(j:Nat)(hj:j < items.size)(hit:e items[j]=true)(hno:∀m (hm:m < items.size),m < j->e items[m]=false):
  Meets (Builtin.«tuple.index» ⟨[.ref l,x],[]⟩)
   (fun A R s=>s.heap.get? l=some {cls:=.type "tuple",dict:=dd,data:=.seq items n,slots:=sl}/\(∀y,y∈items->SeqAt.EqAt A.in1 s y x (e y))/\R (.ok<|.ret<|.int j s.toks) {s with toks:=s.toks+1}):=by
 intro prog w A R s h;obtain⟨hp,g,d,tk,os⟩:=s;obtain⟨hl,he,h⟩:=h
 wp_walk using wpAny_loadPart' hl
 show wpAny (model prog w) A.in1 (forIn [:min items.size items.size] ((none:Option PySem.Fin),()) _) _ _ _;rw[Std.Legacy.Range.forIn_eq_forIn_range'];refine z2L hj hit hno he ?_ j 0 _ (Nat.zero_add _) ?_
 ·exact ve h
 ·simp;lia
inductive z4f(K:ku)(x:V)(vs:List V)(H:Hp)(Q:VK):Prop
|mk (a:Aa) (ss:List Str) (z:Str):x=.ref a->vs=[.str z]->SqT K H a (ss.map V.str)->z∈ss->Q (.int ((ss.idxOf z:Nat):Int)) H->z4f K x vs H Q
def z4K{X:Cx}:MtM X "tuple.index" (z4f X.K):=by
 intro vY s σ H x vs v us Q I rx rv h;obtain⟨l,ss,z0,rfl,rfl,hH,hm,q⟩:=h;cases rx;obtain⟨u,rfl,t,rfl⟩:=rv.one;obtain⟨its,r,⟨o,e,hc,n,hd⟩,_⟩:=I.tuple hH;have hl:=r.length;rw[kl] at hl;have at_:∀(m:Nat)(hm:m < its.toArray.size),∃k tk,ss[m]?=some k/\its.toArray[m]=.str k tk:=fun m hm=>by
  have hm:m < its.length:=by simpa using hm
  have k1:m < ss.length:=by lia
  obtain⟨u,e1,tk,r1⟩:=r.get (show (ss.map V.str)[m]?=some (.str ss[m]) by simp[k1]);refine⟨ss[m],tk,by simp[k1],?_⟩;have:=kL hm
  rw[e1] at this;rw[<-r1];simpa using (kC this).symm
 have hjl:ss.idxOf z0 < ss.length:=List.idxOf_lt_length_iff.mpr hm;obtain⟨cls,dd,data,sl⟩:=o;have hc:cls=.type "tuple":=hc;have hd:data=.seq its.toArray n:=hd;subst hc hd;refine call_meets F.slot_tuple_index ⟨_,e,rfl⟩ F.entry_tuple_index (F.args_tuple_index_2 _ _)
  (JL l its.toArray n dd sl (.str z0 t) (fun y=>match y with|.str k _=>k == z0|_=>false) (ss.idxOf z0) (by rw[kF];lia) ?_ ?_) ⟨e,?_,?_⟩
 ·obtain⟨k,tk,e1,e2⟩:=at_ (ss.idxOf z0) (by rw[kF];lia)
  rw[e2];rw[kL hjl,List.getElem_idxOf] at e1;cases e1;simp
 ·intro m hm hlt;obtain⟨k,tk,e1,e2⟩:=at_ m hm
  rw[e2];have:k≠z0:=fun z=>by
   have h1:m < ss.length:=by lia
   rw[kL h1] at e1;have e1:=kC e1;have h2:=List.not_of_lt_findIdx (p:=fun y=>y == z0) (xs:=ss) hlt;rw[e1,z] at h2;simp at h2
  simpa using this
 ·intro y hy;obtain⟨m,hm,rfl⟩:=Array.mem_iff_getElem.mp hy;obtain⟨k,tk,e1,e2⟩:=at_ m hm
  rw[e2];exact SeqAt.EqAt.str_str _ _ _ _
 ·exact⟨.int _,H,I.tok _,⟨_,rfl⟩,q⟩
end L2
namespace My
open L2
variable {P:Program}{w:World}{K:ku}{mg:Str->Option Ab}{base:Heap}
noncomputable def unR(r:Row)(d:List Nat):List (Nat × Nat):=if inT r.op opsU=true then d.dropLast.map (fun x=>(0,x))++[(opsU.idxOf r.op,d.getLastD 0)] else []
def UnIn(H:Hp)(us:List Aa)(ps:List (Nat × Nat)):Prop:=Paired (fun a p=>H a=some (.tup<|zw [p.1,p.2])) us ps
def UnIn.same{H H':Hp}{us:List Aa}{ps:List (Nat × Nat)}(h:UnIn H us ps)(s:Same H H'):UnIn H' us ps:=Paired.mapP h fun _ _ z=>s _ _ z
def UnIn.append{H:Hp}{us vs:List Aa}{ps qs:List (Nat × Nat)}(h:UnIn H us ps)(h':UnIn H vs qs):UnIn H (us++vs) (ps++qs):=by
 induction h with
|nil=>exact h'
|cons a _ ih=>exact .cons a ih
def z5M(K:ku)(mg:Str->Option Ab):Prop:=∃a o,mg "OPS"=some (.ref a)/\K.lookup a=some o/\o.cls=.type "tuple"/\o.dict=none/\KTup K a (opsU.map V.str)
def z5M.of{K:ku}{mg:Str->Option Ab}(h:z5M K mg):KOps K mg:=by
 obtain⟨a,o,h1,_,_,_,h2⟩:=h;exact⟨a,h1,h2⟩
def z2I{d:List Nat}(h:d≠[]):cutV (zw d) none (some (-1))=zw d.dropLast:=by
 rw[(z2W (α:=V) (zw d) fun z=>h<|List.map_eq_nil_iff.mp z).1];unfold zw;rw[List.map_dropLast]
def z0Z{d:List Nat}(h:d≠[]):atI (zw d) (-1)=some (.int ((d.getLastD 0:Nat):Int)):=by
 have e:zw d=zw d.dropLast++[.int ((d.getLastD 0:Nat):Int)]:=by
  have h1:d=d.dropLast++[d.getLastD 0]:=by
   have:=List.dropLast_concat_getLast h
   rw[List.getLastD_eq_getLast?,List.getLast?_eq_some_getLast h];exact this.symm
  conv=>lhs;rw[h1,z11]
  rfl
 rw[e];exact QQ _ _
section
inductive z2p(K:ku)(vs:List V)(H:Hp)(Q:VK)(E:XK):Prop
|mk (a l:Aa) (r:Row) (d:List Nat):vs=[.ref a,.ref l]->H a=some (.tup<|tupV r)->SqL K H l (zw d)->(inT r.op opsU=true->d≠[])->d.length<=3->(∀p us H',Same H H'->H p=none->H' p=some (.lst<|us.map V.ref)->UnIn H' us (unR r d)->Q (.ref p) H')->z2p K vs H Q E
def sc88:zj ["row","digits"] ["row","digits"] (zc<|top 88):=fsM
def nddg:(["digit"]:List Str).Nodup:=by decide
def z8H(D:zn K mg "row_units" (top 88))(GU:GloU mg)(O:z5M K mg)(FM:FN P w K mg base 1 "makes_units" ["row"] spMU):FN P w K mg base 2 "row_units" ["row","digits"] (z2p K):=by
 refine FN.o D sc88 ?_;rintro _ _ A _ _ H _ _ _ hr ⟨a,l,r,d,rfl,ha,hl,hne,hlen,q⟩;obtain⟨oa,oo,hm,hoo,hoc,hod,hO⟩:=O;refine⟨_,z6 (zV (jw<|qH<|zk FM hr rfl<|pa1<|pv 0) (z8<|zl<|zO qC) zC)
  (z8 (zl (zE Zv (ql (N:=["digit"]) (nt:=1) (ix:=[]) (cl:=[]) rfl (zT.plain vW vW rfl vW rfl) (qy<|z0b z4c (pv 1) z1T<|z1S<|Qi jO zb)
    (fun _ _ _ _=>zL 0 nddg) (fun _ _ _ _=>qr) (fun _ _ _ _=>zY<|pa2 (qU rfl GU.more)<|pv 0))
   (zO<|pa1<|zY<|pa2 (z1W F.plainAttrs_tuple F.slot_tuple_index F.type_tuple_index z4K (Z1 rfl hm (v:=.ref oa) rfl)<|pa1<|zG qg (pv 0) zb)<|zG zH (pv 1)<|Qi jO zb)))),?_⟩
 symm
 refine⟨a,r,rfl,ha,_,rfl,?_⟩;by_cases c:inT r.op opsU=true
 ·rw[c];refine iteF ?_;have hd:=hne c;refine⟨1,rfl,-1,rfl,l,_,rfl,hl,fun p1 hp1=>?_⟩;rw[z2I hd];have s1:=ze hp1 (.lst<|zw d.dropLast);have hp1':(upd H p1<|.lst<|zw d.dropLast) p1=some (.lst<|zw d.dropLast):=z7;generalize upd H p1 (.lst<|zw d.dropLast)=H1 at *;obtain⟨g1,g2,g3⟩:=Ze (K:=K) (SqL.of hp1');have hdl:d.dropLast.length<=2:=by rw[List.length_dropLast];lia
  refine⟨p1,rfl,⟨_,SqL.of hp1'⟩,fun p2 hp2=>jy (n:=(zw d.dropLast).length) (fun σ=>∃x:Option V,σ=[x]) (fun i x _=>(zw d.dropLast)[i]?=some x)
   (fun i v H4=>∃a,v=.ref a/\a≠p2/\∃n,d.dropLast[i]?=some n/\H4 a=some (.tup<|zw [0,n])) (by rw[qb];lia) hp2 ⟨none,rfl⟩ g1 g2 g3 ?_ ?_ ?_⟩
  ·rintro i v H4 H5 ⟨a,rfl,na,n,hn,ha⟩ k;exact⟨a,rfl,na,n,hn,k _ _ ha na⟩
  ·rintro i x σ' H4 A hi s4 hp4 hY ⟨x1,rfl⟩ k;obtain⟨n,hn,rfl⟩:=z0j hY;exact⟨vX,fun q hq=>k _ _ _ ⟨_,rfl⟩ (ze hq _) ⟨q,rfl,fun z=>hp4 (z▸hq),n,hn,z7⟩⟩
  ·intro ys H4 s4 h4 hlen4 hR4;obtain⟨us,rfl,hus⟩:=z1N (fun i a=>a≠p2/\∃n,d.dropLast[i]?=some n/\H4 a=some (.tup<|zw [0,n])) (fun i v e=>by obtain⟨a,rfl,h⟩:=hR4 i v e;exact⟨a,rfl,h⟩);have hul:us.length=d.dropLast.length:=by rw[kl,qb] at hlen4;exact hlen4
   have hU:UnIn H4 us (d.dropLast.map fun x=>(0,x)):=jD (by rw[kl];exact hul) fun j a p e1 e2=>by
    rw[vh] at e2;obtain⟨n',hn',rfl⟩:=Ad.mp e2;obtain⟨_,n,h1,h2⟩:=hus j a e1;rw[hn'] at h1;cases h1;exact h2
   have s14:=s1.trans s4;refine⟨.inr<|.inl ⟨rfl,oo,hoo,hoc,hod⟩,a,_,_,_,rfl,rfl,SqT.of<|s14 _ _ ha,zm (j:=0) rfl,oa,opsU,r.op,rfl,rfl,hO.sq _,Ji.mp c,1,rfl,l,_,_,_,rfl,rfl,s14.seq hl,z0Z hd,vX,fun p3 hp3=>⟨vX,fun p4 hp4=>?_⟩⟩;have s5:=ze hp3 (.tup [.int ((opsU.idxOf r.op:Nat):Int),.int ((d.getLastD 0:Nat):Int)]);have s6:=ze hp4 (.lst [.ref p3]);have s56:=s5.trans s6;refine⟨p2,p4,us.map V.ref,[.ref p3],rfl,rfl,s56 _ _ h4,z7,by rw[kl];show us.length+1<=_;rw[sizeLine_eq];lia,fun p5 hp5=>?_⟩;have s7:=ze hp5 (.lst (us.map V.ref++[.ref p3]));have sall:=s14.trans (s56.trans s7);refine q p5 (us++[p3]) _ sall ((s14.trans s56).free hp5) (by rw[kK];exact z7) ?_;unfold unR;rw[kz c];exact (hU.same<|s56.trans s7).append (.cons ((s6.trans s7) _ _ z7) .nil)
 ·have c:inT r.op opsU=false:=by simpa using c
  rw[c];refine iteT ⟨vj _,fun p hp=>q p [] _ (ze hp _) hp z7 ?_⟩;unfold unR;rw[c];exact .nil
end
section
variable {α:Type}[DecidableEq α]
noncomputable def stS(l:List α):Nat->List (Nat × Nat) × Nat
|0=>([],0)
|k+1=>if k+1=l.length\/l[k+1]?≠l[(stS l k).2]? then ((stS l k).1++[((stS l k).2,k+1)],k+1) else stS l k
noncomputable def stL(l:List α):List (Nat × Nat):=(stS l l.length).1
def z7S(l:List α):∀k,(stS l k).2<=k
|0=>kg _
|k+1=>by
  show (if _ then _ else _:List (Nat × Nat) × Nat).2<=_;split
  ·exact kg _
  ·exact Nat.le_succ_of_le (z7S l k)
def z0K(l:List α):∀k,(stS l k).1.length<=k
|0=>kg _
|k+1=>by
  have:=z0K l k
  show (if _ then _ else _:List (Nat × Nat) × Nat).1.length<=_;split
  ·rw[km];show (stS l k).1.length+1<=k+1;lia
  ·lia
def Chn:Nat->List (Nat × Nat)->Nat->Prop
|a,[],b=>a=b
|a,(x,y)::l,b=>x=a/\x < y/\Chn y l b
def Chn.snoc:∀{l:List (Nat × Nat)}{a b c:Nat},Chn a l b->b < c->Chn a (l++[(b,c)]) c
|[],a,b,c,h,hc=>by
  have h:a=b:=h;subst h;exact⟨rfl,hc,rfl⟩
|(x,y)::l,a,b,c,⟨h1,h2,h3⟩,hc=>⟨h1,h2,Chn.snoc h3 hc⟩
def z7t(l:List α):∀k,Chn 0 (stS l k).1 (stS l k).2
|0=>rfl
|k+1=>by
  have:=z7t l k
  show Chn 0 (if _ then _ else _:List (Nat × Nat) × Nat).1 (if _ then _ else _:List (Nat × Nat) × Nat).2;split
  ·exact this.snoc (Nat.lt_succ_of_le<|z7S l k)
  ·exact this
def z9D{l:List α}(h:l≠[]):(stS l l.length).2=l.length:=by
 cases e:l.length with
|zero=>exact vd (List.length_eq_zero_iff.mp e) h
|succ k=>
  show (if _ then _ else _:List (Nat × Nat) × Nat).2=_;rw[kz<|.inl e.symm]
def JP(l:List α):Chn 0 (stL l) l.length:=by
 by_cases h:l=[]
 ·subst h;rfl
 ·have:=z7t l l.length
  rw[z9D h] at this;exact this
end
def Chn.mem:∀{l:List (Nat × Nat)}{a b:Nat},Chn a l b->a<=b/\∀p∈l,a<=p.1/\p.1 < p.2/\p.2<=b
|[],a,b,h=>⟨kY h,fun p hp=>by cases hp⟩
|(x,y)::l,a,b,⟨h1,h2,h3⟩=>by
  obtain⟨g1,g2⟩:=Chn.mem h3;refine⟨by lia,fun p hp=>?_⟩;rcases kE.mp hp with rfl|hp
  ·exact⟨by show a<=x;lia,h2,g1⟩
  ·obtain⟨k1,k2,k3⟩:=g2 p hp;exact⟨by lia,k2,k3⟩
def Chn.sum:∀{l:List (Nat × Nat)}{a b:Nat},Chn a l b->a+(l.map fun p=>p.2 - p.1).sum=b
|[],a,b,h=>h
|(x,y)::l,a,b,⟨h1,h2,h3⟩=>by
  have:=Chn.sum h3
  simp only[kU,List.sum_cons];lia
def StIn(H:Hp)(xs:List V)(es:List Aa)(st:List (Nat × Nat)):Prop:=Paired (fun a p=>∃x,xs[p.1]?=some x/\H a=some (.tup [.int (p.1:Int),.int (p.2:Int),x])) es st
section
variable {α:Type}[DecidableEq α]
inductive Qg(K:ku)(Rl:Hp->V->α->Prop)(vs:List V)(H:Hp)(Q:VK)(E:XK):Prop
|mk (l:Aa) (xs:List V) (ts:List α):vs=[.ref l]->SqL K H l xs->Paired (Rl H) xs ts->xs.length<=900->(∀p es H',Same H H'->H p=none->H' p=some (.lst<|es.map V.ref)->StIn H' xs es (stL ts)->Q (.ref p) H')->Qg K Rl vs H Q E
def sc89:zj ["things","found","begin","at"] ["things"] (zc<|top 89):=fsM
def Zb{β:Type}{R:V->β->Prop}:∀{xs:List V}{ts:List β},Paired R xs ts->∀{i:Nat}{x:V},xs[i]?=some x->∃t,ts[i]?=some t/\R x t
|_,_,.nil,i,x,e=>by simp at e
|_,_,.cons h _,0,x,e=>by simp at e;subst e;exact⟨_,rfl,h⟩
|_,_,.cons _ t,i+1,x,e=>by
  obtain⟨y,h1,h2⟩:=Zb t (i:=i) (by simpa using e);exact⟨y,by simpa using h1,h2⟩
def z2R{Rl:Hp->V->α->Prop}{r:R2}(hRs:∀H H' x t,Rl H x t->Same H H'->Rl H' x t)(hop:∀X:Cx,X.K=K->X.A.units+3 < cLine->OpR X (compareOp .NotEq) r)(hrl:∀H x y a b Q,Rl H x a->Rl H y b->Q (.bl<|!decide (a=b)) H->r x y H Q)(D:zn K mg "long_stretches" (top 89))(G:Glo mg):FN P w K mg base 1 "long_stretches" ["things"] (Qg K Rl):=by
 refine FN.o D sc89 ?_;rintro f cdv A _ s H _ _ _ hr ⟨l,xs,ts,rfl,hl,hT,hlen,q⟩;have hu3:(A.deeper<|envOfC "long_stretches" (zc<|top 89) s.heap.objs.size f cdv).units+3 < cLine:=by have:=hr.un;lia
 have hxt:xs.length=ts.length:=Paired.length hT;refine⟨_,z6 (zM 1 sc89.nd<|zO qC)
  (z6 (zM 2 sc89.nd zb)
  (z6 (qQ vo rfl (z4o rfl G.range<|pa2 zb<|zE qT (zq zr rfl G.len zK<|pa1<|pv 0) zb) (zL 3 sc89.nd)
   (z8 (zV (PW.pt<|QZ (zo qX (pv 3) (zq zr rfl G.len zK<|pa1<|pv 0)<|zy _)<|Zu<|zo (hop _ rfl hu3) (zG zH (pv 0)<|pv 3) (zG zH (pv 0)<|pv 2)<|zy _)
    (z6 (zi<|jS (pv 1)<|pa1<|zY<|pa3 (pv 2) (pv 3)<|zG zH (pv 0)<|pv 2)
    (z8<|zM 2 sc89.nd<|pv 3)) zC)))
  (z8<|zl<|pv 1))),?_⟩
 symm
 refine⟨vj _,fun p hp=>?_⟩;have s1:=ze hp (.lst []);have hn:((xs.length:Int)+1 - 1).toNat=xs.length:=by lia
 refine⟨l,_,rfl,.inl<|s1.seq hl,_,_,rfl,rfl,1,_,rfl,⟨by decide,by decide,by lia,by lia⟩,?_⟩;rw[hn];refine qJ (lo:=1) (n:=xs.length) (fun i σ H2=>(∃x:Option V,σ=[some<|.ref l,some<|.ref p,some<|.int ((stS ts i).2:Nat),x])/\Same H H2/\∃es,H2 p=some (.lst<|es.map V.ref)/\StIn H2 xs es (stS ts i).1)
  ⟨⟨none,rfl⟩,s1,[],z7,.nil⟩ ?_ ?_
 ·rintro i σ H2 hi ⟨⟨x0,rfl⟩,s2,es,hp2,hE⟩;have hb:=z7S ts i;have hbl:(stS ts i).2 < xs.length:=by lia
  have eb:xs[(stS ts i).2]?=some xs[(stS ts i).2]:=kL hbl;have hl2:=s2.seq hl;have hel:es.length=(stS ts i).1.length:=Paired.length hE;have hsl:=z0K ts i;have hat:(1:Int)+(i:Int)=((i+1:Nat):Int):=by lia
  rw[hat];have put:(i+1=ts.length\/ts[i+1]?≠ts[(stS ts i).2]?)->∀H3,Same H2 H3->∀t,H3 t=none->
    (∃x:Option V,[some<|V.ref l,some<|V.ref p,some<|V.int ((i+1:Nat):Int),some<|V.int ((i+1:Nat):Int)]=[some<|.ref l,some<|.ref p,some<|.int ((stS ts (i+1)).2:Nat),x])/\Same H (upd (upd H3 t<|.tup [.int ((stS ts i).2:Nat),.int ((i+1:Nat):Int),xs[(stS ts i).2]]) p<|.lst (es.map V.ref++[.ref t]))/\
     ∃es',(upd (upd H3 t<|.tup [.int ((stS ts i).2:Nat),.int ((i+1:Nat):Int),xs[(stS ts i).2]]) p<|.lst (es.map V.ref++[.ref t])) p=some (.lst<|es'.map V.ref)/\StIn (upd (upd H3 t<|.tup [.int ((stS ts i).2:Nat),.int ((i+1:Nat):Int),xs[(stS ts i).2]]) p<|.lst (es.map V.ref++[.ref t])) xs es' (stS ts (i+1)).1:=by
   intro c H3 s3 t ht;have e1:stS ts (i+1)=((stS ts i).1++[((stS ts i).2,i+1)],i+1):=by
    show (if _ then _ else _)=_;rw[kz c]
   have s4:=ze ht (.tup [.int ((stS ts i).2:Nat),.int ((i+1:Nat):Int),xs[(stS ts i).2]]);have ntp:t≠p:=fun z=>by rw[z,s3 _ _ hp2] at ht;cases ht
   have hp4:=s4 _ _ (s3 _ _ hp2);have keep:∀b o,(upd H3 t<|.tup [.int ((stS ts i).2:Nat),.int ((i+1:Nat):Int),xs[(stS ts i).2]]) b=some o->b≠p->(upd (upd H3 t<|.tup [.int ((stS ts i).2:Nat),.int ((i+1:Nat):Int),xs[(stS ts i).2]]) p<|.lst (es.map V.ref++[.ref t])) b=some o:=fun b o e nb=>by rw[zg nb];exact e
   refine⟨⟨_,by rw[e1]⟩,My.Same.upd ((s2.trans s3).trans s4) hp _,es++[t],by rw[z7,kK];rfl,?_⟩;rw[e1];refine Paired.snoc (Paired.mapP hE fun a q ⟨x,h1,h2⟩=>⟨x,h1,keep _ _ ((s3.trans s4) _ _ h2)<|jI ((s3.trans s4) _ _ h2) hp4 nofun⟩) ⟨_,eb,keep _ _ z7 ntp⟩
  refine⟨l,_,rfl,.inl hl2,rfl,_,rfl,?_⟩;by_cases c1:i+1=xs.length
  ·refine itT (by rw[c1];exact kj rfl) ?_;refine⟨.inl ⟨rfl,_,SqL.of hp2⟩,l,_,_,_,rfl,rfl,hl2,zm eb,vX,fun t ht=>?_⟩;refine⟨p,_,_,rfl,rfl,(ze ht _) _ _ hp2,zF (by rw[kl];lia),?_⟩;exact put (.inl<|by lia) H2 (Same.refl _) t ht
  ·have hlt1:i+1 < xs.length:=by lia
   have ea:xs[i+1]?=some xs[i+1]:=kL hlt1;refine itF (ki fun z=>c1<|by injection z with z;lia) ?_;obtain⟨ta,hta,ra⟩:=Zb hT ea;obtain⟨tb,htb,rb⟩:=Zb hT eb;refine⟨l,_,_,_,rfl,rfl,hl2,zm ea,l,_,_,_,rfl,rfl,hl2,zm eb,hrl _ _ _ ta tb _ (hRs _ _ _ _ ra s2) (hRs _ _ _ _ rb s2) ⟨_,rfl,?_⟩⟩;by_cases c2:ta=tb
   ·refine itF (by rw[kj c2];rfl) ?_;have e1:stS ts (i+1)=stS ts i:=by
     show (if _ then _ else _)=_;rw[ky];rintro (z|z)
     ·lia
     ·exact z (by rw[hta,htb,c2])
    exact⟨⟨_,by rw[e1];rfl⟩,s2,es,hp2,by rw[e1];exact hE⟩
   ·refine itT (by rw[ki c2];rfl) ?_;refine⟨.inl ⟨rfl,_,SqL.of hp2⟩,l,_,_,_,rfl,rfl,hl2,zm eb,vX,fun t ht=>?_⟩;refine⟨p,_,_,rfl,rfl,(ze ht _) _ _ hp2,zF (by rw[kl];lia),?_⟩;exact put (.inr<|by rw[hta,htb];exact fun z=>c2<|by injection z) H2 (Same.refl _) t ht
 ·rintro σ H2 ⟨⟨x0,rfl⟩,s2,es,hp2,hE⟩;rw[hxt] at hE;exact q p es H2 s2 hp hp2 hE
end
noncomputable def byU{α:Type}(xs:List α)(S:List Nat):List α:=((xs.zip S).map fun p=>List.replicate p.2 p.1).flatten
def z7b{α:Type}{xs:List α}{S:List Nat}{i:Nat}{x:α}{n:Nat}(h1:xs[i]?=some x)(h2:S[i]?=some n):byU (xs.take (i+1)) (S.take (i+1))=byU (xs.take i) (S.take i)++List.replicate n x:=by
 unfold byU;have l1:(xs.take i).length=i:=by rw[vq];have:=(kh.mp h1).1;lia
 have l2:(S.take i).length=i:=by rw[vq];have:=(kh.mp h2).1;lia
 rw[qN h1,qN h2,List.zip_append (by rw[l1,l2]),kK,List.flatten_append];simp
def Qq{α:Type}:∀(xs:List α)(S:List Nat),xs.length=S.length->(byU xs S).length=S.sum
|[],[],_=>rfl
|[],_::_,h=>by cases h
|_::_,[],h=>by cases h
|x::xs,n::S,h=>by
  have:=Qq xs S (by simpa using h)
  unfold byU at this ⊢
  simp only[List.zip_cons_cons,kU,vV,km,vk,List.sum_cons];lia
def z5E{α β:Type}(f:α->β):∀(xs:List α)(S:List Nat),byU (xs.map f) S=(byU xs S).map f
|[],_=>by simp[byU]
|_::_,[]=>by simp[byU]
|x::xs,n::S=>by
  have:=z5E f xs S
  unfold byU at this ⊢
  simp only[kU,List.zip_cons_cons,vV,kK,List.map_replicate];rw[this]
def z30{α β:Type}{R:α->β->Prop}:∀{xs:List α}{ys:List β}(S:List Nat),Paired R xs ys->Paired R (byU xs S) (byU ys S)
|_,_,S,.nil=>by cases S <;> exact .nil
|_,_,[],.cons _ _=>.nil
|x::xs,y::ys,n::S,.cons h t=>by
  have ih:=z30 S t;have e1:byU (x::xs) (n::S)=List.replicate n x++byU xs S:=rfl;have e2:byU (y::ys) (n::S)=List.replicate n y++byU ys S:=rfl;rw[e1,e2];induction n with
 |zero=>exact ih
 |succ n ihn=>
   rw[vG,vG];exact .cons h (ihn rfl rfl)
section
inductive z5V(K:ku)(vs:List V)(H:Hp)(Q:VK)(E:XK):Prop
|mk (l sl:Aa) (xs:List V) (S:List Nat):vs=[.ref l,.ref sl]->SqL K H l xs->SqL K H sl (zw S)->xs.length=S.length->xs.length<=200->(∀x∈S,x<=3)->(∀p H',Same H H'->H p=none->H' p=some (.lst<|byU xs S)->Q (.ref p) H')->z5V K vs H Q E
def sc91:zj ["things","sizes"] ["things","sizes"] (zc<|top 91):=fsM
def nd91:(["thing","size","count"]:List Str).Nodup:=vW
def zaU(D:zn K mg "by_unit" (top 91))(G:Glo mg)(GU:GloU mg):FN P w K mg base 1 "by_unit" ["things","sizes"] (z5V K):=by
 refine FN.o D sc91 ?_;rintro _ _ _ _ _ H _ _ _ _ ⟨l,sl,xs,S,rfl,hl,hsl,hxS,hlen,hS3,q⟩;refine⟨_,z8 (zl (z6h (N:=["thing","size","count"]) (nt:=3) (ix:=[]) (cl:=[]) rfl (zT.plain vW vW rfl vW rfl) (z7v rfl GU.zip<|pa2 (pv 0)<|pv 1)
   (fun _ _ _ _=>Z0 (K:=K) (n:=2) rfl rfl<|zu (zL 0 nd91)<|zu (zL 1 nd91) qt)
   (fun _ _ _ _=>qB rfl G.range<|pa1<|pv 1) (fun _ _ _ _=>zL 2 nd91) (fun _ _ _ _=>pv 0))),?_⟩
 symm
 refine⟨l,sl,rfl,⟨_,hl⟩,⟨_,hsl⟩,fun p hp=>?_⟩;have hbl:∀i,(byU (xs.take i)<|S.take i).length<=3 * S.length:=fun i=>by
  rw[Qq _ _<|by rw[vq,vq,hxS]];refine kr (ZK (k:=3) fun x hx=>hS3 x<|List.mem_of_mem_take hx) ?_;rw[vq];lia
 refine⟨fun i m ys σ H2=>m=xs.length - i/\i<=xs.length/\(∃a b c:Option V,σ=[a,b,c])/\Same H H2/\H2 p=some (.lst ys)/\ys=byU (xs.take i) (S.take i),⟨_,rfl,vj _,⟨none,none,none,rfl⟩,ze hp _,z7,rfl⟩,?_⟩;rintro i m ys σ' H2 ⟨rfl,hi,⟨x0,x1,x2,rfl⟩,s2,hp2,rfl⟩;by_cases hlt:i < xs.length
 ·have ex:xs[i]?=some xs[i]:=kL hlt;have hiS:i < S.length:=by lia
  have eS:S[i]?=some S[i]:=kL hiS;have eV:(zw S)[i]?=some (.int<|Int.ofNat S[i]):=by unfold zw;rw[vh,eS];rfl
  refine .inr ⟨⟨xs,zw S,_,_,s2.seq hl,s2.seq hsl,ex,eV⟩,fun x H3 y=>?_⟩;obtain⟨t,y,z,rfl,ht,rfl,y1,y2⟩:=y;have y1:=y1 xs (s2.seq hl);have y2:=y2 _ (s2.seq hsl);rw[ex] at y1;rw[eV] at y2;cases y1;cases y2;have s3:=ze ht (.tup [xs[i],.int<|Int.ofNat S[i]]);refine⟨t,_,rfl,SqT.of z7,rfl,_,_,rfl,_,_,rfl,rfl,?_⟩;have hp3:=s3 _ _ hp2;have s23:=s2.trans s3;generalize upd H2 t (.tup [xs[i],.int<|Int.ofNat S[i]])=H3 at *;have hSi:=hS3 _ (List.getElem_mem hiS);refine⟨_,rfl,by show -(2 ^ 62)<=((S[i]:Nat):Int);lia,by show ((S[i]:Nat):Int) < 2 ^ 62;lia,?_⟩;have en:(Int.ofNat S[i]).toNat=S[i]:=rfl;rw[en];refine⟨fun i2 m2 ys2 σ3 H6=>m2=S[i] - i2/\i2<=S[i]/\(∃c:Option V,σ3=[some xs[i],some<|.int<|Int.ofNat S[i],c])/\Same H H6/\H6 p=some (.lst ys2)/\ys2=byU (xs.take i) (S.take i)++List.replicate i2 xs[i],⟨_,rfl,vj _,⟨_,rfl⟩,s23,hp3,by simp⟩,?_⟩;rintro i2 m2 ys2 σ3 H6 ⟨rfl,hi2,⟨c,rfl⟩,s6,hp6,rfl⟩;by_cases hlt2:i2 < S[i]
  ·refine .inr ⟨hlt2,fun x H7 y=>?_⟩;obtain⟨rfl,rfl⟩:=y;have hb:=hbl i;refine⟨hp6,zF (by rw[km,vk];lia),S[i] - (i2+1),by lia,rfl,hlt2,⟨_,rfl⟩,My.Same.upd s6 hp _,z7,?_⟩;rw[List.replicate_succ',kX]
  ·have e:i2=S[i]:=by lia
   subst e;exact .inl ⟨kg _,xs.length - (i+1),by lia,rfl,hlt,⟨_,_,_,rfl⟩,s6,hp6,(z7b ex eS).symm⟩
 ·have e:i=xs.length:=by lia
  subst e;refine .inl ⟨⟨xs,zw S,s2.seq hl,s2.seq hsl,.inl<|kg _⟩,?_⟩;rw[vC,hxS,vC] at hp2;exact q p H2 s2 hp hp2
end
inductive z87(x:V)(y:V)(H:Hp)(Q:VK):Prop
|mk (a b:Option Gd):qL H x a->qL H y b->Q (.bl<|!decide (a=b)) H->z87 x y H Q
def z0v{X:Cx}{vY:List (Aa × Obj)}{σ:L2.St}{H:Hp}{s:Ac}(I:Inv X vY σ H s){a:Aa}{g:Gd}(ha:H a=some (.tup [.int g.1,.int g.2])):∃t1 t2,s.heap.IsTuple a #[.int g.1 t1,.int g.2 t2]:=by
 obtain⟨its,r,p,_⟩:=I.tuple (SqT.of ha);cases r with
|cons r1 t=>
  cases t with
 |cons r2 t=>
   cases t;obtain⟨t1,rfl⟩:=r1;obtain⟨t2,rfl⟩:=r2;exact⟨t1,t2,p⟩
def z8f{X:Cx}(hu:X.A.units+3 < cLine):OpR X (compareOp .NotEq) z87:=by
 intro vY s σ H x y v u Q I rx ry h;obtain⟨oa,ob,ha,hb,hq⟩:=h;cases oa with
|none=>
  have ha:x=.non:=ha;subst ha;cases rx;cases ob with
 |none=>
   have hb:y=.non:=hb;subst hb;cases ry;exact SeqAt.RcNeAt.none_none X.prog X.w X.xe _ ⟨.bl _,H,I,rfl,hq⟩
 |some g=>
   obtain⟨b,rfl,hb⟩:=hb;cases ry;obtain⟨t1,t2,p⟩:=z0v I hb;exact SeqAt.RcNeAt.none_tuple p (by lia) X.prog X.w X.xe _ ⟨.bl _,H,I,rfl,hq⟩
|some g=>
  obtain⟨a,rfl,ha⟩:=ha;cases rx;obtain⟨t1,t2,p⟩:=z0v I ha;cases ob with
 |none=>
   have hb:y=.non:=hb;subst hb;cases ry;exact SeqAt.RcNeAt.tuple_none p (by lia) X.prog X.w X.xe _ ⟨.bl _,H,I,rfl,hq⟩
 |some g'=>
   obtain⟨b,rfl,hb⟩:=hb;cases ry;obtain⟨t3,t4,p'⟩:=z0v I hb;refine SeqAt.RcNeAt.tuples (e:=fun j=>if j=0 then g.1 == g'.1 else g.2 == g'.2) p p' (by lia) (fun j j1 j2=>?_) X.prog X.w X.xe _ ⟨.bl _,H,I,rfl,?_⟩
   ·have j1:j < 2:=by simpa using j1
    match j,j1 with
   |0,_=>exact SeqAt.EqAt.int_int _ _ _ _
   |1,_=>exact SeqAt.EqAt.int_int _ _ _ _
   ·have e:((List.range<|min (#[Value.int g.1 t1,Value.int g.2 t2]).size (#[Value.int g'.1 t3,Value.int g'.2 t4]).size).all (fun j=>if j=0 then g.1 == g'.1 else g.2 == g'.2)&&(#[Value.int g.1 t1,Value.int g.2 t2]).size == (#[Value.int g'.1 t3,Value.int g'.2 t4]).size)=decide (some g=some g'):=by
     show ((List.range 2).all (fun j=>if j=0 then g.1 == g'.1 else g.2 == g'.2)&&true)=_;rw[show List.range 2=[0,1] from rfl,vT];simp[Prod.ext_iff]
    rw[e];exact hq
def zbI{H:Hp}{gv:V}{o:Option Gd}{p:Aa}{ys:List V}(h:qL H gv o)(hp:H p=some (.lst ys)):gv≠.ref p:=by
 cases o with
|none=>
  have h:gv=.non:=h;rw[h];exact nofun
|some g=>
  obtain⟨a,rfl,ha⟩:=h;intro z;injection z with z
  rw[z,hp] at ha;cases ha
noncomputable def topG(fin:Fnd):List (Option Gd):=fin.map fun o=>o.bind fun st=>st.2.getLast?
section
inductive z7W(K:ku)(vs:List V)(H:Hp)(Q:VK)(E:XK):Prop
|mk (l:_) (as:_) (rs:_) (fin:_):vs=[.ref l]->H l=some (.lst<|as.map V.ref)->zI H as rs->Code rs->Zz rs=some fin->fin.length=rs.length->(∀p gvs H',Same H H'->H p=none->H' p=some (.lst gvs)->Paired (qL H') gvs (topG fin)->Q (.ref p) H')->z7W K vs H Q E
def sc90:zj ["code"] ["code"] (zc<|top 90):=fsM
def ndst:(["state"]:List Str).Nodup:=by decide
def zaR(D:zn K mg "guards_by_row" (top 90))(FS:FN P w K mg base 10 "states" ["code"] (JR K))(FU:Fd P w K mg base):FN P w K mg base 11 "guards_by_row" ["code"] (z7W K):=by
 refine FN.o D sc90 ?_;rintro _ _ A _ _ _ _ _ _ hr ⟨l,as,rs,fin,rfl,hl,hR,hc,hfin,hfl,q⟩;have hr1:=hr.mono (vW:1<=10);have hhi:=hc.hi;refine⟨_,z8 (zl (ql (N:=["state"]) (nt:=1) (ix:=[]) (cl:=[]) rfl (zT.plain vW vW rfl vW rfl) (qy<|zk FS hr rfl<|pa1<|pv 0)
   (fun _ _ _ _=>zL 0 ndst) (fun _ _ _ _=>qr) (fun _ _ _ _=>j9 (zo J5 (pv 0) qR<|zy _) qR<|zk FU hr1 rfl<|pa1<|zG (Zf (K:=K) rfl) (pv 0) zb))),?_⟩
 symm
 refine⟨l,as,rs,fin,rfl,hl,hR,hc,hfin,fun fl fvs H1 s1 hfl0 hfl1 hF=>?_⟩;have hvl:fvs.length=fin.length:=Paired.length hF;obtain⟨g1,g2,g3⟩:=Ze (K:=K) (SqL.of hfl1);refine⟨fl,rfl,⟨_,SqL.of hfl1⟩,fun p hp=>Qa (n:=fvs.length) (fun σ=>∃x:Option V,σ=[x]) (fun i x _=>fvs[i]?=some x) (fun i v H4=>∃o,(topG fin)[i]?=some o/\qL H4 v o/\v≠.ref p) (by lia) hp ⟨none,rfl⟩ g1 g2 g3 ?_ ?_ ?_⟩
 ·rintro i v H4 H5 ⟨o,ho,hv,nv⟩ k;refine⟨o,ho,?_,nv⟩;cases o with
 |none=>exact hv
 |some g=>
   obtain⟨a,rfl,ha⟩:=hv;exact⟨a,rfl,k _ _ ha fun z=>nv<|by rw[z]⟩
 ·rintro i x σ' H4 A hi s4 ⟨ps,hp4⟩ hY ⟨x1,rfl⟩ k;obtain⟨o,ho,hx⟩:=Zb hF hY;have hto:(topG fin)[i]?=some (o.bind fun st=>st.2.getLast?):=by unfold topG;rw[vh,ho];rfl
  refine⟨rfl,_,rfl,?_⟩;cases o with
 |none=>
   have hx:x=.non:=hx;subst hx;exact itT rfl (k _ _ _ ⟨_,rfl⟩ (Same.refl _) ⟨_,hto,rfl,nofun⟩)
 |some st=>
   obtain⟨a,rfl,g,hst,hgs⟩:=hx;refine itF rfl ⟨a,_,_,_,rfl,rfl,jq s4 hst,zm (j:=1) rfl,g,st.2,rfl,hgs.same s4,fun gv hgv=>k _ _ _ ⟨_,rfl⟩ (Same.refl _) ⟨_,hto,hgv,zbI hgv hp4⟩⟩
 ·intro ys H4 s4 h4 hlen4 hR4;refine q p ys H4 (s1.trans s4) (s1.free hp) h4 (jD (by rw[hlen4,hvl];unfold topG;rw[kl]) fun j v o e1 e2=>?_);obtain⟨o',h1,h2,_⟩:=hR4 j v e1;rw[e2] at h1;cases h1;exact h2
end
structure StB(rs:List Row)(k:Nat)(s:Sta):Prop where
 lo:0<=s.1
 hi:s.1<=k
 gs:∀g∈s.2,(∃j,zA rs g.1=some j)/\0<=g.2/\g.2<=k
def StB.mono{rs:List Row}{k k':Nat}{s:Sta}(h:StB rs k s)(hk:k<=k'):StB rs k' s:=
 ⟨h.lo,by have:=h.hi;lia,fun g hg=>⟨(h.gs g hg).1,(h.gs g hg).2.1,by have:=(h.gs g hg).2.2;lia⟩⟩
def z2B:∀op∈Qb,
  0<=tabI jo op/\0<=tabI j8 op/\tabI j8 op<=1/\(inT op jG=true->tabI jo op=0)/\(tabI qp op=1\/tabI qp op= -1\/tabI qp op=0)/\(tabI qp op=1->op="try"):=vW
def z5F{rs:List Row}(hc:Code rs){r:Row}(hr:r∈rs){d:Int}{k:Nat}(h0:0<=d)(hk:d<=k)(ha:¬d < qK r):0<=qG r d/\qG r d<=(k+1:Nat):=by
 obtain⟨s,hs⟩:=jY hc hr;obtain⟨t1,t2,t3,t4,_⟩:=z2B r.op (ZU hs);unfold qG;unfold qK at ha;by_cases c:inT r.op jG=true
 ·rw[t4 c];lia
 ·rw[ky c] at ha;lia
def z0o{gs:List Gd}{g:Gd}(h:gs.getLast?=some g):g∈gs:=List.mem_of_getLast? h
def z8n{rs:List Row}(hc:Code rs){p:Nat}{r:Row}(hr:rs[p]?=some r){s:Sta}{k:Nat}(h:StB rs k s):∀q∈Qk rs p r s,StB rs (k+1) q.2:=by
 intro q hq;have hm:=kH hr;obtain⟨so,hs⟩:=jY hc hm;obtain⟨t1,t2,t3,t4,t5,t6⟩:=z2B r.op (ZU hs);unfold Qk at hq;obtain⟨m,hm',rfl⟩:=yf.mp hq;unfold ji at hm';split at hm'
 ·cases hm'
 ·rename_i ha
  have ha:¬s.1 < qK r:=fun z=>ha (kj z)
  split at hm'
  ·cases hm'
  ·have hgs:∀g∈s.2,(∃j,zA rs g.1=some j)/\0<=g.2/\g.2<=(k+1:Nat):=fun g hg=>⟨(h.gs g hg).1,(h.gs g hg).2.1,by have:=(h.gs g hg).2.2;lia⟩
   have hdrop:∀g∈s.2.dropLast,(∃j,zA rs g.1=some j)/\0<=g.2/\g.2<=(k+1:Nat):=fun g hg=>hgs g (List.dropLast_subset _ hg)
   have hb:=z5F hc hm h.lo h.hi ha;have hlo:=h.lo;have hhi:=h.hi;rcases kS.mp hm' with hm'|hm'
   ·rcases kS.mp hm' with hm'|hm'
    ·unfold mv1 at hm';split at hm'
     ·cases hm'
     ·rw[ko.mp hm'];refine⟨hb.1,hb.2,?_⟩;show ∀g∈qx r s.1 s.2 (tabI qp r.op),_;unfold qx;rcases t5 with e|e|e
      ·rw[kz e];intro g hg;rcases kS.mp hg with hg|hg
       ·exact hgs g hg
       ·rw[ko.mp hg];have eop:=t6 e;obtain⟨m,j,em,hj⟩:=z0m hc hm (by rw[eop];decide+kernel);refine⟨⟨j,?_⟩,h.lo,by show s.1<=_;lia⟩;show zA rs (argM r.arg)=_;rw[em];exact hj
      ·rw[ky (by rw[e];decide),kz e];exact hdrop
      ·rw[ky (by rw[e];decide),ky<|by rw[e];decide];exact hgs
    ·unfold mv2 at hm';split at hm'
     ·rw[ko.mp hm'];refine⟨?_,?_,?_⟩
      ·show 0<=(if _ then _ else _:Int)
       split
       ·exact h.lo
       ·exact hb.1
      ·show (if _ then _ else _:Int)<=_;split
       ·lia
       ·exact hb.2
      ·show ∀g∈qx r s.1 s.2 0,_;unfold qx;rw[ky (by decide),ky<|by decide];exact hgs
     ·cases hm'
   ·unfold mv3 at hm';split at hm'
    ·cases e:s.2.getLast? with
    |none=>rw[e] at hm';cases hm'
    |some g=>
      rw[e] at hm';rw[ko.mp hm'];obtain⟨_,g1,g2⟩:=h.gs g (z0o e);refine⟨by show 0<=g.2+1;lia,by show g.2+1<=_;lia,?_⟩;show ∀g∈qx r s.1 s.2 (-1),_;unfold qx;rw[ky (by decide),kz rfl];exact hdrop
    ·cases hm'
noncomputable def cntF(f:Fnd):Nat:=f.countP Option.isSome
def BdF(rs:List Row)(k:Nat)(f:Fnd):Prop:=∀(p:Nat) s,f[p]?=some (some s)->StB rs k s
def z99{f:Fnd}{j:Nat}{s:Sta}(h:f[j]?=some none):cntF f < cntF (f.set j<|some s):=by
 unfold cntF;induction f generalizing j with
|nil=>simp at h
|cons o f ih=>
  cases j with
 |zero=>
   simp at h
   subst h;simp
 |succ j=>
   have:=ih (j:=j) (by simpa using h)
   rw[List.set_cons_succ,Aj,Aj];lia
def z03{rs:List Row}{k:Nat}:∀(ns:List (V × Sta))(f:Fnd)(w:List Nat){f':Fnd}{w':List Nat},QD ns f w=some (f',w')->(∀q∈ns,StB rs k q.2)->BdF rs k f->BdF rs k f'/\(f'=f\/cntF f < cntF f')
|[],f,w,f',w',h,_,hb=>by
  cases h;exact⟨hb,.inl rfl⟩
|(x,s)::ns,f,w,f',w',h,hn,hb=>by
  have hn':∀q∈ns,StB rs k q.2:=fun q hq=>hn q (kR _ hq)
  unfold QD at h;split at h
  ·rename_i j
   split at h
   ·split at h
    ·rename_i hj
     have hc:=z99 (s:=s) hj;have hb':BdF rs k (f.set j.toNat<|some s):=fun p t e=>by
      rw[vA] at e;split at e
      ·split at e
       ·cases e;exact hn (V.int j,s) (kQ ..)
       ·cases e
      ·exact hb p t e
     obtain⟨g1,g2⟩:=z03 ns _ _ h hn' hb';refine⟨g1,.inr ?_⟩;rcases g2 with rfl|g2
     ·exact hc
     ·lia
    ·split at h
     ·exact z03 ns f w h hn' hb
     ·cases h
    ·cases h
   ·cases h
  ·cases h
def z7G{rs:List Row}(hc:Code rs):∀(n:Nat)(f:Fnd)(w:List Nat){fin:Fnd},bfs rs n f w=some fin->(∃k,k < cntF f/\BdF rs k f)->∃k,k < cntF fin/\BdF rs k fin
|n,f,[],fin,h,hk=>by
  have:bfs rs n f []=some f:=by cases n <;> rfl
  rw[this] at h;cases h;exact hk
|0,f,p::w,fin,h,_=>by cases h
|n+1,f,p::w,fin,h,⟨k,hk,hb⟩=>by
  unfold bfs at h;split at h
  ·rename_i r s hr hs
   split at h
   ·split at h
    ·rename_i f' w' hrel
     obtain⟨g1,g2⟩:=z03 (k:=k+1) _ _ _ hrel (z8n hc hr<|hb p s hs) (fun q t e=>(hb q t e).mono<|Nat.le_succ _);refine z7G hc n f' w' h ?_;rcases g2 with rfl|g2
     ·exact⟨k,hk,hb⟩
     ·exact⟨k+1,by lia,g1⟩
    ·cases h
   ·cases h
  ·cases h
def z1k{rs:List Row}(hc:Code rs){fin:Fnd}(h:Zz rs=some fin)(hl:fin.length=rs.length):BdF rs 150 fin:=by
 have lo:=hc.lo;have hhi:=hc.hi;obtain⟨k,hk,hb⟩:=z7G hc _ _ _ h ⟨0,by
  cases rs with
 |nil=>cases lo
 |cons r rs=>
   unfold cntF;rw[kP,vG,List.set_cons_zero,Aj];simp,fun p s e=>by
  rw[vA] at e;split at e
  ·split at e
   ·cases e;exact⟨Int.le_refl _,Int.le_refl _,fun g hg=>by cases hg⟩
   ·cases e
  ·rw[vt] at e;split at e <;> cases e⟩
 have h1:cntF fin<=fin.length:=List.countP_le_length;exact fun p s e=>(hb p s e).mono (by lia)
def jW(H:Hp)(es:List Aa)(rows:List (List Nat)):Prop:=Paired (fun a r=>H a=some (.tup<|zw r)) es rows
def jW.same{H H':Hp}{es:List Aa}{rows:List (List Nat)}(h:jW H es rows)(s:Same H H'):jW H' es rows:=Paired.mapP h fun _ _ z=>s _ _ z
def jW.put{H:Hp}{es:List Aa}{rows:List (List Nat)}{l:Aa}{ys zs:List V}(h:jW H es rows)(hl:H l=some (.lst ys)):jW (upd H l<|.lst zs) es rows:=Paired.mapP h fun _ _ z=>by
 show upd H l (.lst zs) _=_;rw[zg<|jI z hl nofun];exact z
noncomputable def gtE(rs:List Row)(S:List Nat)(gs:List (Option Gd))(p:Nat × Nat):Option (List Nat):=(gs[p.1]?.join).map fun g=>[p.1,p.2,jm rs S g.1,g.2.toNat]
noncomputable def gsU(fin:Fnd)(S:List Nat):List (Option Gd):=byU (topG fin) S
noncomputable def gtM(rs:List Row)(fin:Fnd)(S:List Nat):List (List Nat):=(stL<|gsU fin S).filterMap (gtE rs S<|gsU fin S)
section
inductive spGT(K:ku)(vs:List V)(H:Hp)(Q:VK)(E:XK):Prop
|mk (l gl sl:Aa) (as:List Aa) (rs:List Row) (fin:Fnd) (S:List Nat) (gvs:List V):vs=[.ref l,.ref gl,.ref sl]->SqL K H l (as.map V.ref)->zI H as rs->Code rs->SqL K H gl gvs->Paired (qL H) gvs (topG fin)->fin.length=rs.length->BdF rs 150 fin->SqL K H sl (zw S)->S.length=rs.length->(∀x∈S,x<=3)->(∀t es H',Same H H'->H t=none->H' t=some (.tup<|es.map V.ref)->jW H' es (gtM rs fin S)->Q (.ref t) H')->spGT K vs H Q E
noncomputable abbrev N92:List Str:=["code","guards","sizes","labels","firsts","stretches"]
def sc92:zj N92 ["code","guards","sizes"] (zc<|top 92):=fsM
noncomputable def zb2:Scope:=match (zR<|top 92).getD 3 (.Pass ⟨0,0,0,0⟩) with
|.Return (some<|.Call _ [.ListComp _ _ s _] _ _) _=>s
|_=>zc (top 92)
noncomputable def cl92(L:Aa):List (Str × Aa):=[("labels",L+1),("firsts",L+2)]
noncomputable def nm92:List (Str × NameKind):=[(".0",.local),("begin",.local),("end",.local),("guard",.local),("firsts",.cell),("labels",.cell)]
noncomputable abbrev N92a:List Str:=["begin","end","guard","firsts","labels"]
def cs92{f:Aa}{cdv:Ab}{A:Around}{vZ:List Env}{s:Ac}{H:Hp}{E:XK}:
  zT (cxOf CX0 P w K mg base N92 "guard_table" (zc<|top 92) f cdv A vZ s H E).nox N92a 3 [4,3] zb2 (cl92 s.heap.objs.size):=
 zT.mk3 (nm:=nm92) (ks:=(cl92 0).map Prod.fst) rfl rfl ⟨vW,vW⟩ rfl rfl rfl vW rfl rfl rfl rfl
def nd92:N92a.Nodup:=vW
def z0k{α:Type}{x:α}:∀{xs:List α}{S:List Nat},x∈byU xs S->x∈xs
|[],S,h=>by simp[byU] at h
|_::_,[],h=>by simp[byU] at h
|y::xs,n::S,h=>by
  have e:byU (y::xs) (n::S)=List.replicate n y++byU xs S:=rfl;rw[e] at h;rcases kS.mp h with h|h
  ·rw[(List.mem_replicate.mp h).2];exact kQ ..
  ·exact kR _ (z0k h)
def zbU(D:zn K mg "guard_table" (top 92))(G:Glo mg)(FL:Fc P w K mg base)(FF:FN P w K mg base 1 "first_units" ["sizes"] (z5U K))(FB:FN P w K mg base 1 "by_unit" ["things","sizes"] (z5V K))(FS:FN P w K mg base 1 "long_stretches" ["things"] (Qg K qL)):
  FN P w K mg base 8 "guard_table" ["code","guards","sizes"] (spGT K):=by
 refine FN.o D sc92 ?_;rintro _ _ _ _ s _ _ _ _ hr ⟨l,gl,sl,as,rs,fin,S,gvs,rfl,hl,hR,hc,hgl,hG,hfl,hB,hsl,hSl,hS3,q⟩;have hr1:=hr.mono (vW:1<=7);have hhi:=hc.hi;have hu:=z0u hr;have hgv:gvs.length=fin.length:=by have:=Paired.length hG;unfold topG at this;rw[kl] at this;exact this
 refine⟨_,z6 (jR (i:=3) sc92.nd rfl (Or.inr rfl)<|zk FL hr rfl<|pa1<|pv 0)
  (z6 (jR (i:=4) sc92.nd rfl (Or.inr rfl)<|zk FF hr1 rfl<|pa1<|pv 2)
  (z6 (zM 5 sc92.nd<|zk FS hr1 rfl<|pa1<|zk FB hr1 rfl<|pa2 (pv 1)<|pv 2)
  (z8 (zl (ja jd rfl G.tuple qi (pa1 (ql (N:=N92a) (nt:=3) (ix:=[4,3]) (cl:=cl92 s.heap.objs.size) rfl cs92 (qy<|pv 5)
    (fun _ _ _ _=>Z0 (K:=K) (n:=3) rfl rfl<|zu (zL 0 nd92)<|zu (zL 1 nd92)<|zu (zL 2 nd92) qt)
    (fun _ _ _ _=>z1O<|zo z0d (pv 2) qR<|zy _)
    (fun _ _ _ _=>zY<|zf (pv 0)<|pa3 (pv 1) (zG (z0r (K:=K) rfl) (pv 3)<|ZC hu (pv 4) (zG (Zf (K:=K) rfl) (pv 2) zb) fun _ _=>rfl)<|zG (Zf (K:=K) rfl) (pv 2) zb)))))))),?_⟩
 symm
 refine⟨l,as,rs,rfl,hl,hR,hc.ok,by lia,fun ld kvs H1 hld s1 hld1 hL=>?_⟩;refine⟨sl,S,rfl,s1.seq hsl,by lia,fun fl H2 s2 hfl0 hfl2=>?_⟩;have s12:=s1.trans s2;have hxS:gvs.length=S.length:=by lia
 refine⟨gl,sl,gvs,S,rfl,s12.seq hgl,s12.seq hsl,hxS,by lia,hS3,fun ul H3 s3 hul hul3=>?_⟩;have s13:=s12.trans s3;have hG3:Paired (qL H3) gvs (topG fin):=Paired.mapP hG fun _ _ z=>z.same s13
 have hGU:Paired (qL H3) (byU gvs S) (gsU fin S):=z30 S hG3;have hUl:(byU gvs S).length<=3 * 150:=by
  rw[Qq _ _ hxS];have:=ZK hS3
  lia
 have hUg:(byU gvs S).length=(gsU fin S).length:=Paired.length hGU;refine⟨ul,_,gsU fin S,rfl,SqL.of hul3,hGU,by lia,fun pl es H4 s4 hpl hpl4 hE=>?_⟩;have s14:=s13.trans s4;have hel:es.length=(stL<|gsU fin S).length:=Paired.length hE;have hst:(stL<|gsU fin S).length<=450:=by
  have:=z0K (gsU fin S) (gsU fin S).length
  unfold stL;lia
 refine⟨pl,rfl,⟨_,SqL.of hpl4⟩,fun tl htl=>Zo (K:=K) (a:=pl) (xs:=es.map V.ref) (fun i ys σ H5=>(∃a b c:Option V,σ=[a,b,c,some<|.ref fl,some<|.ref ld])/\Same H4 H5/\H5 tl=some (.lst ys)/\∃ts:List Aa,ys=ts.map V.ref/\jW H5 ts (((stL<|gsU fin S).take i).filterMap<|gtE rs S<|gsU fin S))
  ⟨⟨none,none,none,rfl⟩,ze htl _,z7,[],rfl,.nil⟩ (fun i ys σ H5 _ zz=>by obtain⟨_,s5,_⟩:=zz;exact s5.seq (SqL.of hpl4)) ?_ ?_⟩
 ·rintro i x ys σ H5 hi ⟨⟨x0,x1,x2,rfl⟩,s5,htl5,ts,rfl,hT⟩;rw[vh] at hi;obtain⟨a,ha,rfl⟩:=Ad.mp hi;have hil:i < (stL<|gsU fin S).length:=by rw[<-hel];exact (kh.mp ha).1
  have eP:(stL<|gsU fin S)[i]?=some (stL<|gsU fin S)[i]:=kL hil;obtain⟨a',ha',gv,hgv1,hat⟩:=qV hE eP;rw[ha] at ha';cases ha';generalize (stL<|gsU fin S)[i]=pr at *;obtain⟨o,ho,hgo⟩:=Zb hGU hgv1;have hat5:=s5 _ _ hat;refine⟨a,_,rfl,SqT.of hat5,rfl,_,_,rfl,_,_,rfl,_,_,rfl,rfl,rfl,_,rfl,?_⟩;have htsl:ts.length<=i:=by
   have:=Paired.length hT
   have h2:=List.length_filterMap_le (gtE rs S<|gsU fin S) ((stL<|gsU fin S).take i);rw[vq] at h2;lia
  cases o with
 |none=>
   have hgo:gv=.non:=hgo;subst hgo;refine itF rfl ⟨(es.map V.ref).length - (i+1),by rw[kl];lia,by rw[kl],by rw[kl];lia,⟨_,_,_,rfl⟩,s5,htl5,ts,rfl,?_⟩;rw[qN eP,List.filterMap_append];have:gtE rs S (gsU fin S) pr=none:=by unfold gtE;rw[ho];rfl
   rw[show [pr].filterMap (gtE rs S<|gsU fin S)=[] by simp[this],kW];exact hT
 |some g=>
   obtain⟨ga,rfl,hga⟩:=hgo;have hga5:=s5 _ _ (s4 _ _ hga);obtain⟨st,hst1,hst2⟩:∃st:Sta,(∃p:Nat,fin[p]?=some (some st))/\st.2.getLast?=some g:=by
    have hm:=z0k (kH ho);unfold topG at hm;obtain⟨o',ho',e⟩:=yf.mp hm;cases o' with
   |none=>cases e
   |some st=>
     obtain⟨p,hp⟩:=List.mem_iff_getElem?.mp ho';exact⟨st,⟨p,hp⟩,e⟩
   obtain⟨p0,hp0⟩:=hst1;obtain⟨⟨j,hj⟩,hd0,hd1⟩:=(hB p0 st hp0).gs g (z0o hst2);have hjl:j < rs.length:=z4P hj;refine itT rfl ?_;have hdg:DGet H5 ld (.int g.1) (some<|.int ((j:Nat):Int)):=by
    have:=DGet.k (k:=(Sum.inl g.1:Key)) (s5 _ _<|s4 _ _<|s3 _ _<|s2 _ _ hld1)
    rw[hL g.1,hj] at this;exact this
   refine⟨ga,_,_,_,rfl,rfl,SqT.of hga5,zm (j:=0) rfl,ld,_,rfl,hdg,fl,_,_,_,rfl,rfl,SqL.of<|s5 _ _<|s4 _ _<|s3 _ _ hfl2,zm (j:=j) (v:=.int ((fstU S j:Nat):Int)) ?_,ga,_,_,_,rfl,rfl,SqT.of hga5,zm (j:=1) rfl,vX,fun t ht=>?_⟩
   ·unfold zw;rw[Ak,vh,An<|by lia];rfl
   ·have s6:=ze ht (.tup [.int (pr.1:Int),.int (pr.2:Int),.int ((fstU S j:Nat):Int),.int g.2]);have hge:gtE rs S (gsU fin S) pr=some [pr.1,pr.2,fstU S j,g.2.toNat]:=by
     unfold gtE;rw[ho];show some [pr.1,pr.2,jm rs S g.1,g.2.toNat]=_;unfold jm;rw[hj];rfl
    have hg2:((g.2.toNat:Nat):Int)=g.2:=Ap hd0;refine⟨s6 _ _ htl5,zF (by rw[kl];lia),(es.map V.ref).length - (i+1),by rw[kl];lia,by rw[kl],by rw[kl];lia,⟨_,_,_,rfl⟩,My.Same.upd (s5.trans s6) htl _,z7,ts++[t],by rw[kK];rfl,?_⟩;rw[qN eP,List.filterMap_append];have e1:[pr].filterMap (gtE rs S<|gsU fin S)=[[pr.1,pr.2,fstU S j,g.2.toNat]]:=by simp[hge]
    rw[e1];refine Paired.snoc ((hT.same s6).put<|s6 _ _ htl5) ?_;show upd _ tl _ t=_;rw[zg (fun z=>by rw[z,htl5] at ht;cases ht),z7];unfold zw;show some (HO.tup [.int (pr.1:Int),.int (pr.2:Int),.int ((fstU S j:Nat):Int),.int g.2])=some (HO.tup [.int (pr.1:Int),.int (pr.2:Int),.int ((fstU S j:Nat):Int),.int ((g.2.toNat:Nat):Int)]);rw[hg2]
 ·rintro ys σ H5 ⟨_,s5,htl5,ts,rfl,hT⟩;rw[kl,hel,vC] at hT;refine⟨tl,_,rfl,.inl ⟨SqL.of htl5,fun t ht=>?_⟩⟩;have s6:=ze ht (.tup<|ts.map V.ref);exact q t ts _ ((s14.trans s5).trans s6) ((s14.trans s5).free ht) z7 (hT.same s6)
end
noncomputable def lnU(rs:List Row)(S:List Nat):List Nat:=byU (rs.map fun r=>r.line.toNat) S
noncomputable def ltM(rs:List Row)(S:List Nat):List (List Nat):=(stL<|lnU rs S).map fun p=>[p.2 - p.1,(lnU rs S).getD p.1 0]
def RlN:Hp->V->Nat->Prop:=fun _ x n=>x=.int (n:Int)
def z2k{H:Hp}:∀{ys:List V}{rows:List (List Nat)},ys.length=rows.length->(∀(i:Nat) v,ys[i]?=some v->∃t,v=.ref t/\∃r,rows[i]?=some r/\H t=some (.tup<|zw r))->∃ts:List Aa,ys=ts.map V.ref/\jW H ts rows
|[],[],_,_=>⟨[],rfl,.nil⟩
|[],_::_,h,_=>by cases h
|_::_,[],h,_=>by cases h
|y::ys,r::rows,h,k=>by
  obtain⟨ts,e,hT⟩:=z2k (ys:=ys) (rows:=rows) (by simpa using h) fun i v e=>by
   have:=k (i+1) v (by simpa using e)
   simpa using this
  obtain⟨t,rfl,r',e',ht⟩:=k 0 y rfl;cases e';exact⟨t::ts,by rw[e];rfl,.cons ht hT⟩
section
def z5c(D:zn K mg "long_stretches" (top 89))(G:Glo mg):FN P w K mg base 1 "long_stretches" ["things"] (Qg K RlN):=
 z2R (r:=rNe) (fun _ _ _ _ h _=>h) (fun _ _ _=>z8g) (fun H x y a b Q ha hb q=>by
  have ha:x=.int (a:Int):=ha;have hb:y=.int (b:Int):=hb;subst ha hb;refine⟨rfl,?_⟩;have e:decide ((V.int (a:Int))=V.int (b:Int))=decide (a=b):=by
   by_cases h:a=b
   ·subst h;simp
   ·rw[ki h,ki fun z=>h<|by injection z with z;lia]
  rw[e];exact q) D G
inductive spLT(K:ku)(vs:List V)(H:Hp)(Q:VK)(E:XK):Prop
|mk (l sl:Aa) (as:List Aa) (rs:List Row) (S:List Nat):vs=[.ref l,.ref sl]->SqL K H l (as.map V.ref)->zI H as rs->Code rs->SqL K H sl (zw S)->S.length=rs.length->(∀x∈S,x<=3)->(∀t es H',Same H H'->H t=none->H' t=some (.tup<|es.map V.ref)->jW H' es (ltM rs S)->Q (.ref t) H')->spLT K vs H Q E
noncomputable abbrev N93:List Str:=["code","sizes","stretches"]
def sc93:zj N93 ["code","sizes"] (zc<|top 93):=fsM
def nd93:(["row"]:List Str).Nodup:=vW
def z8p:(["begin","end","line"]:List Str).Nodup:=vW
def zbT(D:zn K mg "line_table" (top 93))(G:Glo mg)(FB:FN P w K mg base 1 "by_unit" ["things","sizes"] (z5V K))(FS:FN P w K mg base 1 "long_stretches" ["things"] (Qg K RlN)):
  FN P w K mg base 2 "line_table" ["code","sizes"] (spLT K):=by
 refine FN.o D sc93 ?_;rintro _ _ A _ _ _ _ _ _ hr ⟨l,sl,as,rs,S,rfl,hl,hR,hc,hsl,hSl,hS3,q⟩;have hhi:=hc.hi;have hal:as.length=rs.length:=Paired.length hR;refine⟨_,z6 (zM 2 sc93.nd (zk FS hr rfl (pa1 (zk FB hr rfl (pa2 (ql (N:=["row"]) (nt:=1) (ix:=[]) (cl:=[]) rfl (zT.plain vW vW rfl vW rfl) (qy<|pv 0)
    (fun _ _ _ _=>zL 0 nd93) (fun _ _ _ _=>qr) (fun _ _ _ _=>zG (Zf (K:=K) rfl) (pv 0) zb))<|pv 1)))))
  (z8 (zl (ja jd rfl G.tuple qi (pa1 (ql (N:=["begin","end","line"]) (nt:=3) (ix:=[]) (cl:=[]) rfl (zT.plain vW vW rfl vW rfl) (qy<|pv 2)
    (fun _ _ _ _=>Z0 (K:=K) (n:=3) rfl rfl<|zu (zL 0 z8p)<|zu (zL 1 z8p)<|zu (zL 2 z8p) qt)
    (fun _ _ _ _=>qr)
    (fun _ _ _ _=>zY<|pa2 (zE jh (pv 1)<|pv 0)<|pv 2)))))),?_⟩
 symm
 have hln:∀(i:Nat) r,rs[i]?=some r->((r.line.toNat:Nat):Int)=r.line:=fun i r e=>Ap (by
  have h:=hc.ok r (kH e);unfold jX rowV zW at h;simp only[yd,ye] at h;exact h.2.1)
 refine⟨l,rfl,⟨_,hl⟩,fun p hp=>z2X (K:=K) (a:=l) (xs:=as.map V.ref) (rest:=[]) (fun i=>.int ((((rs.map fun r=>r.line.toNat)[i]?).getD 0:Nat):Int)) (by rw[kl];lia) hp hl (fun i x H3 A hi s3 k=>?_) fun H1 s1 h1=>?_⟩
 ·rw[vh] at hi;obtain⟨a,ha,rfl⟩:=Ad.mp hi;have hil:i < rs.length:=by rw[<-hal];exact (kh.mp ha).1
  obtain⟨a',ha',hat⟩:=qV hR (kL hil);rw[ha] at ha';cases ha';refine⟨a,_,_,_,rfl,rfl,SqT.of<|s3 _ _ hat,zm (j:=2) rfl,?_⟩;have:=k H3 (Same.refl _)
  rw[vh,kL hil] at this;have e:=hln i _ (kL hil);show A (.int (rs[i]).line) H3;rw[<-e];exact this
 have e1:(List.range (as.map V.ref).length).map (fun i=>V.int ((((rs.map fun r=>r.line.toNat)[i]?).getD 0:Nat):Int))=zw (rs.map fun r=>r.line.toNat):=by
  unfold zw;rw[kl,hal];refine Af fun i=>?_
  rw[vh,vh];by_cases hi:i < rs.length
  ·rw[An hi,kL (l:=rs.map _)<|by rw[kl];exact hi];show some (V.int ((((rs.map fun r=>r.line.toNat)[i]?).getD 0:Nat):Int))=_;rw[kL (l:=rs.map _)<|by rw[kl];exact hi];rfl
  ·rw[vp (by rw[Am];lia),vp<|by rw[kl];lia];rfl
 rw[e1] at h1;have hxS:(zw (rs.map fun r=>r.line.toNat)).length=S.length:=by rw[qb,kl];lia
 refine⟨p,sl,_,S,rfl,SqL.of h1,s1.seq hsl,hxS,by lia,hS3,fun ul H2 s2 hul hul2=>?_⟩;have s12:=s1.trans s2;have e2:byU (zw (rs.map fun r=>r.line.toNat)) S=zw (lnU rs S):=by
  unfold zw lnU;exact z5E _ _ _
 rw[e2] at hul2;have hUl:(lnU rs S).length<=450:=by
  unfold lnU;rw[Qq _ _<|by rw[kl];lia];have:=ZK hS3
  lia
 refine⟨ul,_,lnU rs S,rfl,SqL.of hul2,?_,by rw[qb];lia,fun pl es H3 s3 hpl hpl3 hE=>?_⟩
 ·generalize lnU rs S=l;induction l with
 |nil=>exact .nil
 |cons x l ih=>exact .cons rfl ih
 have s13:=s12.trans s3;have hel:es.length=(stL<|lnU rs S).length:=Paired.length hE;have hst:(stL<|lnU rs S).length<=450:=by
  have:=z0K (lnU rs S) (lnU rs S).length
  unfold stL;lia
 refine⟨pl,rfl,⟨_,SqL.of hpl3⟩,fun tl htl=>?_⟩;obtain⟨g1,g2,g3⟩:=Ze (SqL.of (K:=K) hpl3);refine jy (n:=(es.map V.ref).length) (fun σ=>∃a b c:Option V,σ=[a,b,c]) (fun i x _=>(es.map V.ref)[i]?=some x) (fun i v H6=>∃t,v=.ref t/\t≠tl/\∃r,(ltM rs S)[i]?=some r/\H6 t=some (.tup<|zw r)) (by rw[kl];lia) htl ⟨none,none,none,rfl⟩ g1 g2 g3 ?_ ?_ ?_
 ·rintro i v H1' H2' ⟨t,rfl,hn,r,hr1,h⟩ hk;exact⟨t,rfl,hn,r,hr1,hk _ _ h hn⟩
 ·rintro i x σ' H5 A hi s5 hne hY ⟨x0,x1,x2,rfl⟩ k;rw[vh] at hY;obtain⟨a,ha,rfl⟩:=Ad.mp hY;have hil:i < (stL<|lnU rs S).length:=by rw[<-hel];exact (kh.mp ha).1
  have eP:(stL<|lnU rs S)[i]?=some (stL<|lnU rs S)[i]:=kL hil;have hm:=((JP<|lnU rs S).mem.2 _<|List.getElem_mem hil)
  obtain⟨a',ha',gv,hgv1,hat⟩:=qV hE eP;rw[ha] at ha';cases ha';generalize (stL<|lnU rs S)[i]=pr at *;obtain⟨m1,m2,m3⟩:=hm;have hp1:pr.1 < (lnU rs S).length:=by lia
  have hgv:gv=.int (((lnU rs S).getD pr.1 0:Nat):Int):=by
   unfold zw at hgv1;rw[vh,kL hp1] at hgv1;cases hgv1;rw[List.getD_eq_getElem?_getD,kL hp1];rfl
  subst hgv;have hsub:((pr.2:Nat):Int) - ((pr.1:Nat):Int)=((pr.2 - pr.1:Nat):Int):=by lia
  refine⟨a,_,rfl,SqT.of<|s5 _ _ hat,rfl,_,_,rfl,_,_,rfl,_,_,rfl,rfl,_,_,rfl,rfl,vX,fun t ht=>k _ _ _ ⟨_,_,_,rfl⟩ (ze ht _) ⟨t,rfl,fun z=>hne (z▸ht),[pr.2 - pr.1,(lnU rs S).getD pr.1 0],?_,?_⟩⟩
  ·unfold ltM;rw[vh,eP];rfl
  ·rw[z7];unfold zw;show some (HO.tup [.int ((pr.2:Int) - (pr.1:Int)),.int (((lnU rs S).getD pr.1 0:Nat):Int)])=some (HO.tup [.int ((pr.2 - pr.1:Nat):Int),.int (((lnU rs S).getD pr.1 0:Nat):Int)]);rw[hsub]
 ·intro ys H5 s5 h5 hyl hRy;refine⟨tl,_,rfl,.inl ⟨SqL.of h5,fun t ht=>?_⟩⟩;have s6:=ze ht (.tup ys);have hlm:ys.length=(ltM rs S).length:=by unfold ltM;rw[kl,hyl,kl,hel]
  obtain⟨ts,hts,hT⟩:=z2k hlm (fun i v e=>by obtain⟨t,e1,_,e2⟩:=hRy i v e;exact⟨t,e1,e2⟩);subst hts;exact q t ts _ ((s13.trans s5).trans s6) ((s13.trans s5).free ht) z7 (jW.same hT s6)
end
end My
namespace L2
variable {X:Cx}
def z0I:∀{ns:List Int}{us:List Ab},Vals (ns.map V.int) us->∃ys:List (Int × Tok),us=ys.map (fun p=>.int p.1 p.2)/\ys.map (·.1)=ns
|[],_,r=>by cases r;exact⟨[],rfl,rfl⟩
|n::ns,_,r=>by
  cases r with
 |cons x y=>
   obtain⟨t,rfl⟩:=(show ∃t,_=Value.int n t from x)
   obtain⟨ys,rfl,rfl⟩:=z0I y;exact⟨(n,t)::ys,rfl,rfl⟩
def z0B(hc:X.calm=true):Zs X (.builtin "sum") (fun xs H Q=>∃(p:Aa)(ns:List Int),xs=[.ref p]/\SqL X.K H p (ns.map V.int)/\Q (.int ns.sum) H):=by
 intro vY s σ H xs us Q I r h;obtain⟨p,ns,rfl,hS,q⟩:=h;obtain⟨u,rfl,ru⟩:=Js r;cases ru;obtain⟨its,rv,pl,hz⟩:=I.list hS;obtain⟨ys,rfl,rfl⟩:=z0I rv;have hh:X.A.in1.handled=none:=I.ok.hd hc;have hl:s.heap.IsList p (intItems ys.toArray):=by
  have:=pl.isList
  unfold intItems;simpa using this
 refine sum_intListG hh hl fun h' tk t' hk=>?_
 have e:preSum (numAt ys.toArray) ys.toArray.size=(ys.map (·.1)).sum:=by
  rw[preSum_eq,List.take_of_length_le<|by simp]
 rw[e];exact⟨.int _,H,I.kept (t':=tk) hk,⟨_,rfl⟩,q⟩
end L2
namespace My
open L2
variable {P:Program}{w:World}{K:ku}{mg:Str->Option Ab}{base:Heap}
def okG(most:Nat):Nat->List (List Nat)->Prop
|_,[]=>True
|low,r::rs=>∃b e g d:Nat,r=[b,e,g,d]/\low<=b/\b < e/\e<=most/\g<=most/\d<=999/\okG most e rs
def okL(rs:List (List Nat)):Prop:=∀r∈rs,∃m l:Nat,r=[m,l]/\1<=m/\m<=9999/\l<=9999
def za7{most:Nat}{rs:List (List Nat)}{i:Nat}{r:List Nat}{low:Nat}(h:okG most low (rs.drop i))(e:rs[i]?=some r):∃b e g d:Nat,r=[b,e,g,d]/\low<=b/\b < e/\e<=most/\g<=most/\d<=999/\okG most e (rs.drop (i+1)):=by
 obtain⟨hlt,e⟩:=kh.mp e;rw[List.drop_eq_getElem_cons hlt,e] at h;exact h
def z3U{H:Hp}{rs:List (List Nat)}{as:List Aa}(h:jW H as rs){i:Nat}{x:V}(hi:(as.map V.ref)[i]?=some x):∃a r,x=.ref a/\rs[i]?=some r/\H a=some (.tup<|zw r):=by
 rw[vh] at hi;obtain⟨a,ha,rfl⟩:=Ad.mp hi;have hlt:i < rs.length:=by
  rw[<-Paired.length h];exact (kh.mp ha).1
 obtain⟨a',ha',z⟩:=qV h (kL hlt);rw[ha] at ha';cases ha';exact⟨a,_,rfl,kL hlt,z⟩
def Q9{K:ku}{a l:Aa}{xs:List V}{te:TE}{Rr:Hp->Prop}{H:Hp}{rest:List (Option V)}(hn:xs.length<=1000)(hl:H l=none)(hx:SqT K H a xs)(hs:∀(i:Nat) x H3 (A:V->Hp->Prop),xs[i]?=some x->Same H H3->(∀H6,Same H3 H6->A (.bl true) H6)->te (some x::rest) H3 A)(hd:∀H2,Same H H2->(∃bs:List Bool,SqL K H2 l (bs.map V.bl)/\bs.all id=true)->Rr H2):
  ∃W:Nat->Nat->List V->L2.St->Hp->Prop,(∃m,W 0 m [] (none::rest)<|upd H l<|.lst [])/\∀i m ys σ' H2,W i m ys σ' H2->
   ((Itt K a).stop i H2/\Rr H2)\/((Itt K a).go i H2/\∀x H3,(Itt K a).yld i H2 x H3->Qm 0 x σ' H3 (cqS tAll te l W i m ys)):=by
 obtain⟨g1,g2,g3⟩:=z3T hx;refine jy (fun σ=>∃x:Option V,σ=x::rest) (fun i x _=>xs[i]?=some x) (fun i v _=>v=.bl true) hn hl ⟨none,rfl⟩ g1 g2 g3 (fun i v H1 H2 h _=>h) (fun i x σ' H3 A hi s3 _ hY hσ k=>?_) (fun ys H2 s2 h2 hlen hR=>hd H2 s2 ?_)
 ·obtain⟨b,rfl⟩:=hσ;exact hs i x H3 (fun v H6=>A v (some x::rest) H6) hY s3 fun H6 s6=>k _ _ H6 ⟨_,rfl⟩ s6 rfl
 ·have e:ys=(List.replicate ys.length true).map V.bl:=by
   refine Af fun i=>?_
   rw[vh];by_cases hi:i < ys.length
   ·rw[List.getElem?_replicate_of_lt hi,kL hi,hR i _<|kL hi];rfl
   ·rw[vp (by lia),vp<|by rw[vk];lia];rfl
  refine⟨List.replicate ys.length true,?_,?_⟩
  ·rw[<-e];exact SqL.of h2
  ·rw[List.all_eq_true];intro x hx;rw[(List.mem_replicate.mp hx).2];rfl
section
inductive QW(vs:List V)(H:Hp)(Q:VK)(E:XK):Prop
|mk (a:Aa) (xs:List V) (k:Nat):vs=[.ref a,.int (k:Int)]->H a=some (.tup xs)->xs.length=k->Q (.bl true) H->QW vs H Q E
def sc60:zj ["thing","many"] ["thing","many"] (zc<|top 60):=fsM
abbrev Fe(P:Program)(w:World)(K:PySem.W.Frag)(mg:Str->Option Ab)(base:Heap):=FN P w K mg base 1 "is_tuple_of" ["thing","many"] QW
def z6T(D:zn K mg "is_tuple_of" (top 60))(G:Glo mg):Fe P w K mg base:=by
 refine FN.o D sc60 ?_;rintro _ _ _ _ _ _ _ _ _ _ ⟨a,xs,k,rfl,ha,hk,q⟩;refine⟨_,z8 (zl (qS (zq zZ rfl G.isinstance zD<|pa2 (pvX 0)<|ZS "tuple" rfl G.tuple qi)
  (qZ<|jj qX (zq zr rfl G.len zK<|pa1<|pvX 0) (pvX 1)<|zy _))),?_⟩
 symm
 refine⟨_,rfl,_,"tuple",_,true,rfl,.tup ha,rfl,_,rfl,iteT ?_⟩;refine⟨_,rfl,a,_,rfl,.inr<|SqT.of ha,_,rfl,rfl,?_⟩;rw[hk];have e:decide (V.int (k:Int)=V.int (k:Int))=true:=kj rfl;rw[e];exact q
inductive z47(vs:List V)(H:Hp)(Q:VK)(E:XK):Prop
|mk (a:Aa) (low b e g d most:Nat):vs=[.ref a,.int (low:Int),.int (most:Int)]->H a=some (.tup<|zw [b,e,g,d])->low<=b->b < e->e<=most->g<=most->d<=999->Q (.bl true) H->z47 vs H Q E
def sc61:zj ["thing","low","most","begin","end","goal","depth"] ["thing","low","most"] (zc<|top 61):=fsM
def qY{n:Nat}{lo hi:Int}(h1:lo<=n)(h2:(n:Int)<=hi):zW (.int (n:Int)) lo hi=true:=by
 show (decide (lo<=(n:Int))&&decide ((n:Int)<=hi))=true;rw[kj h1,kj h2];rfl
def z8Y(D:zn K mg "is_guard_entry" (top 61))(G:Glo mg)(GU:GloU mg)(FT:Fe P w K mg base)(FW:Fa P w K mg base):
  FN P w K mg base 3 "is_guard_entry" ["thing","low","most"] z47:=by
 refine FN.o D sc61 ?_;rintro _ _ _ _ _ _ _ _ _ hr ⟨a,low,b,e,g,d,most,rfl,ha,h1,h2,h3,h4,h5,q⟩;have hr1:=hr.mono (vW:1<=2);refine⟨_,z6 (zV (jw<|qH<|zk FT hr1 rfl<|pa2 (pvX 0) zb) (z8<|zl Z2) zC)
  (z6 (Za (pvX 0)<|Z7 rfl<|zu (zL 3 sc61.nd)<|zu (zL 4 sc61.nd)<|zu (zL 5 sc61.nd)<|zu (zL 6 sc61.nd) qt)
  (z6 (zV (PW.pt<|QZ (jw<|qH<|zk FW hr rfl<|pa3 (pvX 3) (pvX 1)<|pvX 2)<|Zu<|jw<|qH<|zk FW hr rfl<|pa3 (pvX 4) (zE qT (pvX 3) zb)<|pvX 2) (z8<|zl Z2) zC)
  (z8<|zl<|qS (zk FW hr rfl<|pa3 (pvX 5) zb<|pvX 2)<|qZ<|zk FW hr rfl<|pa3 (pvX 6) zb<|qU rfl GU.depth))),?_⟩
 symm
 refine⟨_,rfl,a,_,4,rfl,ha,rfl,_,rfl,iteF ?_⟩;refine⟨_,rfl,a,_,rfl,SqT.of ha,rfl,_,_,rfl,_,_,rfl,_,_,rfl,_,_,rfl,rfl,?_⟩;refine⟨_,rfl,_,rfl,_,rfl,_,_,_,rfl,.int _,?_⟩;rw[show zW (V.int<|Int.ofNat b) (low:Int) (most:Int)=true from qY (by lia) (by lia)];refine⟨true,rfl,iteF ?_⟩;refine⟨_,rfl,_,rfl,_,_,rfl,rfl,_,rfl,_,_,_,rfl,.int _,?_⟩;rw[show zW (V.int<|Int.ofNat e) (Int.ofNat b+1) (most:Int)=true from qY (by simp only[Int.ofNat_eq_natCast];lia) (by lia)];refine⟨true,rfl,iteF ?_⟩;refine⟨_,rfl,_,rfl,_,_,_,rfl,.int _,?_⟩;rw[show zW (V.int<|Int.ofNat g) 0 (most:Int)=true from qY (by lia) (by lia)];refine⟨_,rfl,iteT ⟨_,rfl,_,_,_,rfl,.int _,?_⟩⟩;rw[show zW (V.int<|Int.ofNat d) 0 999=true from qY (by lia) (by lia)];exact q
inductive z46(vs:List V)(H:Hp)(Q:VK)(E:XK):Prop
|mk (a:Aa) (as:List Aa) (rs:List (List Nat)) (most:Nat):vs=[.ref a,.int (most:Int)]->H a=some (.tup<|as.map V.ref)->jW H as rs->okG most 0 rs->Q (.bl true) H->z46 vs H Q E
def sc62:zj ["thing","most","low","entry"] ["thing","most"] (zc<|top 62):=fsM
def z8X(D:zn K mg "is_guard_table" (top 62))(G:Glo mg)(FE:FN P w K mg base 3 "is_guard_entry" ["thing","low","most"] z47):FN P w K mg base 4 "is_guard_table" ["thing","most"] z46:=by
 refine FN.o D sc62 ?_;rintro _ _ _ _ _ H _ _ _ hr ⟨a,as,rs,most,rfl,ha,hT,ok,q⟩;refine⟨_,z6 (zV (jw<|qH<|zq zZ rfl G.isinstance zD<|pa2 (pvX 0)<|ZS "tuple" rfl G.tuple qi) (z8<|zl Z2) zC)
  (z6 (zM 2 sc62.nd zb)
  (z6 (qQ vo rfl (J3<|pvX 0) (zL 3 sc62.nd)
   (z6 (zV (jw<|qH<|zk FE hr rfl<|pa3 (pvX 3) (pvX 2)<|pvX 1) (z8<|zl Z2) zC)
   (z8<|zM 2 sc62.nd<|zG qg (pvX 3) zb)))
  (z8<|zl Z2))),?_⟩
 symm
 refine⟨_,rfl,_,"tuple",_,true,rfl,.tup ha,rfl,_,rfl,iteF ?_⟩;refine⟨_,rfl,a,rfl,⟨_,SqT.of ha⟩,z8C (xs:=as.map V.ref) (fun i σ H2=>H2=H/\∃(low:Nat)(x:Option V),σ=[some<|.ref a,some<|.int (most:Int),some<|.int (low:Int),x]/\okG most low (rs.drop i)) ⟨rfl,0,_,rfl,ok⟩ (fun i σ H2 _ ⟨e,_⟩=>by rw[e];exact SqT.of ha) ?_ ?_⟩
 ·rintro i x σ H2 hi ⟨rfl,low,y,rfl,ok2⟩;obtain⟨b,r,rfl,er,hb⟩:=z3U hT hi;obtain⟨gb,ge,gg,gd,rfl,k1,k2,k3,k4,k5,k6⟩:=za7 ok2 er;refine⟨_,rfl,_,rfl,_,rfl,b,low,_,_,_,_,_,rfl,hb,k1,k2,k3,k4,k5,_,rfl,iteF ?_⟩;exact⟨_,rfl,b,_,_,_,rfl,rfl,SqT.of hb,zm (j:=1) rfl,rfl,_,_,rfl,k6⟩
 ·rintro σ H2 ⟨rfl,low,y,rfl,ok2⟩;exact q
inductive z43(vs:List V)(H:Hp)(Q:VK)(E:XK):Prop
|mk (a:Aa) (m l:Nat):vs=[.ref a]->H a=some (.tup<|zw [m,l])->1<=m->m<=9999->l<=9999->Q (.bl true) H->z43 vs H Q E
def sc63:zj ["thing"] ["thing"] (zc<|top 63):=fsM
def z8S(D:zn K mg "is_line_entry" (top 63))(G:Glo mg)(GU:GloU mg)(FT:Fe P w K mg base)(FW:Fa P w K mg base):FN P w K mg base 3 "is_line_entry" Vc z43:=by
 refine FN.o D sc63 ?_;rintro _ _ _ _ _ _ _ _ _ hr ⟨a,m,l,rfl,ha,h1,h2,h3,q⟩;have hr1:=hr.mono (vW:1<=2);refine⟨_,z6 (zV (jw<|qH<|zk FT hr1 rfl<|pa2 (pvX 0) zb) (z8<|zl Z2) zC)
  (z8<|zl<|qS (zk FW hr rfl<|pa3 (zG qg (pvX 0) zb) zb<|qU rfl GU.many)<|qZ<|zk FW hr rfl<|pa3 (zG qg (pvX 0) zb) zb<|qU rfl G.line),?_⟩
 symm
 refine⟨_,rfl,a,_,2,rfl,ha,rfl,_,rfl,iteF ?_⟩;refine⟨_,rfl,a,_,_,_,rfl,rfl,SqT.of ha,zm (j:=0) rfl,_,_,_,rfl,.int _,?_⟩;rw[show zW (V.int<|Int.ofNat m) 1 9999=true from qY (by lia) (by lia)];refine⟨_,rfl,iteT ⟨_,rfl,a,_,_,_,rfl,rfl,SqT.of ha,zm (j:=1) rfl,_,_,_,rfl,.int _,?_⟩⟩;rw[show zW (V.int<|Int.ofNat l) 0 9999=true from qY (by lia) (by lia)];exact q
inductive z42(vs:List V)(H:Hp)(Q:VK)(E:XK):Prop
|mk (a:Aa) (as:List Aa) (rs:List (List Nat)):vs=[.ref a]->H a=some (.tup<|as.map V.ref)->jW H as rs->okL rs->rs.length<=900->(∀H',Same H H'->Q (.bl true) H')->z42 vs H Q E
def sc64:zj ["thing"] ["thing"] (zc<|top 64):=fsM
def nd_1(x:Str):([x]:List Str).Nodup:=by simp
def z8P(D:zn K mg "is_line_table" (top 64))(G:Glo mg)(FE:FN P w K mg base 3 "is_line_entry" Vc z43):FN P w K mg base 4 "is_line_table" Vc z42:=by
 refine FN.o D sc64 ?_;rintro _ _ A _ _ _ _ _ _ hr ⟨a,as,rs,rfl,ha,hT,ok,hz,q⟩;have hal:as.length=rs.length:=Paired.length hT;refine⟨_,z8 (zl (qS (zq zZ rfl G.isinstance zD<|pa2 (pv 0)<|ZS "tuple" rfl G.tuple qi)
  (qZ (zq (jz rfl) rfl G.all boot_all (pa1 (ql (N:=["entry"]) (nt:=1) (ix:=[]) (cl:=[]) rfl (zT.plain vW vW rfl vW rfl) (J3<|pv 0)
   (fun _ _ _ _=>ZB (i:=0) (nd_1 _) rfl<|Or.inl rfl) (fun _ _ _ _=>qr) (fun _ _ _ _=>zk FE hr rfl<|pa1<|pv 0))))))),?_⟩
 symm
 refine⟨_,"tuple",_,true,rfl,.tup ha,rfl,_,rfl,iteT ?_⟩;refine⟨a,rfl,⟨_,SqT.of ha⟩,fun nl hnl=>Q9 (K:=K) (a:=a) (xs:=as.map V.ref) (rest:=[]) (by rw[kl];lia) hnl (SqT.of ha) (fun i x H3 A hi s3 k=>?_) fun H2 s2 ⟨bs,hbs,hall⟩=>?_⟩
 ·obtain⟨b,r,rfl,er,hb⟩:=z3U hT hi;obtain⟨m,l,rfl,k1,k2,k3⟩:=ok r (kH er);exact⟨b,_,_,rfl,s3 _ _ hb,k1,k2,k3,k H3<|Same.refl _⟩
 ·refine⟨nl,bs,rfl,hbs,?_⟩;rw[hall];exact q H2 s2
end
section
inductive z7U(vs:List V)(H:Hp)(Q:VK)(E:XK):Prop
|mk (a:Aa) (o d:Nat):vs=[.ref a]->H a=some (.tup<|zw [o,d])->o<=25->d<=15->Q (.bl true) H->z7U vs H Q E
def sc71:zj ["thing"] ["thing"] (zc<|top 71):=fsM
def zaP(D:zn K mg "is_unit" (top 71))(G:Glo mg)(GU:GloU mg)(O:z5M K mg)(FT:Fe P w K mg base)(FW:Fa P w K mg base):FN P w K mg base 3 "is_unit" Vc z7U:=by
 refine FN.o D sc71 ?_;rintro _ _ _ _ _ _ _ _ _ hr ⟨a,o,d,rfl,ha,h1,h2,q⟩;obtain⟨oa,oo,hm,hoo,hoc,hod,hO⟩:=O;have hr1:=hr.mono (vW:1<=2);refine⟨_,z6 (zV (jw<|qH<|zk FT hr1 rfl<|pa2 (pv 0) zb) (z8<|zl Z2) zC)
  (z8<|zl<|qS (zk FW hr rfl<|pa3 (zG qg (pv 0) zb) zb<|zE jh (zq zr rfl G.len zK<|pa1<|Z1 rfl hm (v:=.ref oa) rfl) zb)<|qZ<|zk FW hr rfl<|pa3 (zG qg (pv 0) zb) zb<|zE jh (qU rfl GU.base) zb),?_⟩
 symm
 refine⟨a,_,2,rfl,ha,rfl,_,rfl,iteF ?_⟩;refine⟨a,_,_,_,rfl,rfl,SqT.of ha,zm (j:=0) rfl,oa,_,rfl,.inr<|.inr hO,_,_,rfl,rfl,_,_,_,rfl,.int _,?_⟩;rw[show zW (V.int<|Int.ofNat o) 0 (((opsU.map V.str).length:Int) - 1)=true from qY (by lia) (by show (o:Int)<=26 - 1;lia)];refine⟨_,rfl,iteT ⟨a,_,_,_,rfl,rfl,SqT.of ha,zm (j:=1) rfl,_,_,rfl,rfl,_,_,_,rfl,.int _,?_⟩⟩;rw[show zW (V.int<|Int.ofNat d) 0 (16 - 1)=true from qY (by lia) (by lia)];exact q
inductive z1L(K:ku)(Rl:Hp->V->Prop)(vs:List V)(H:Hp)(Q:VK)(E:XK):Prop
|mk (a:Aa) (xs:List V):vs=[.ref a]->H a=some (.tup xs)->xs.length<=900->(∀x∈xs,Rl H x)->(∀H',Same H H'->Q (.bl true) H')->z1L K Rl vs H Q E
def sc72:zj ["thing"] ["thing"] (zc<|top 72):=fsM
def sc73:zj ["thing"] ["thing"] (zc<|top 73):=fsM
def sc74:zj ["thing"] ["thing"] (zc<|top 74):=fsM
def z5g(D:zn K mg "are_consts" (top 72))(G:Glo mg)(FE:FN P w K mg base 4 "is_pushed" Vc (sp1 zU)):FN P w K mg base 5 "are_consts" Vc (z1L K fun _ x=>Scal x/\zU x=true):=by
 refine FN.o D sc72 ?_;rintro _ _ A _ _ _ _ _ _ hr ⟨a,xs,rfl,ha,hz,hx,q⟩;refine⟨_,z8 (zl (qS (zq zZ rfl G.isinstance zD<|pa2 (pv 0)<|ZS "tuple" rfl G.tuple qi)
  (qZ (zq (jz rfl) rfl G.all boot_all (pa1 (ql (N:=["value"]) (nt:=1) (ix:=[]) (cl:=[]) rfl (zT.plain vW vW rfl vW rfl) (J3<|pv 0)
   (fun _ _ _ _=>ZB (i:=0) (nd_1 _) rfl<|Or.inl rfl) (fun _ _ _ _=>qr) (fun _ _ _ _=>zk FE hr rfl<|pa1<|pv 0))))))),?_⟩
 symm
 refine⟨_,"tuple",_,true,rfl,.tup ha,rfl,_,rfl,iteT ?_⟩;refine⟨a,rfl,⟨_,SqT.of ha⟩,fun nl hnl=>Q9 (K:=K) (a:=a) (xs:=xs) (rest:=[]) (by lia) hnl (SqT.of ha) (fun i x H3 A hi s3 k=>?_) fun H2 s2 ⟨bs,hbs,hall⟩=>?_⟩
 ·obtain⟨h1,h2⟩:=hx x (kH hi);refine⟨x,rfl,h1,?_⟩;rw[h2];exact k H3 (Same.refl _)
 ·refine⟨nl,bs,rfl,hbs,?_⟩;rw[hall];exact q H2 s2
def z6Y(D:zn K mg "are_names" (top 73))(G:Glo mg)(FE:FN P w K mg base 2 "is_name" Vc (sp1 ZV)):FN P w K mg base 3 "are_names" Vc (z1L K fun _ x=>Scal x/\ZV x=true):=by
 refine FN.o D sc73 ?_;rintro _ _ A _ _ _ _ _ _ hr ⟨a,xs,rfl,ha,hz,hx,q⟩;refine⟨_,z8 (zl (qS (zq zZ rfl G.isinstance zD<|pa2 (pv 0)<|ZS "tuple" rfl G.tuple qi)
  (qZ (zq (jz rfl) rfl G.all boot_all (pa1 (ql (N:=["name"]) (nt:=1) (ix:=[]) (cl:=[]) rfl (zT.plain vW vW rfl vW rfl) (J3<|pv 0)
   (fun _ _ _ _=>ZB (i:=0) (nd_1 _) rfl<|Or.inl rfl) (fun _ _ _ _=>qr) (fun _ _ _ _=>zk FE hr rfl<|pa1<|pv 0))))))),?_⟩
 symm
 refine⟨_,"tuple",_,true,rfl,.tup ha,rfl,_,rfl,iteT ?_⟩;refine⟨a,rfl,⟨_,SqT.of ha⟩,fun nl hnl=>Q9 (K:=K) (a:=a) (xs:=xs) (rest:=[]) (by lia) hnl (SqT.of ha) (fun i x H3 A hi s3 k=>?_) fun H2 s2 ⟨bs,hbs,hall⟩=>?_⟩
 ·obtain⟨h1,h2⟩:=hx x (kH hi);refine⟨x,rfl,h1,?_⟩;rw[h2];exact k H3 (Same.refl _)
 ·refine⟨nl,bs,rfl,hbs,?_⟩;rw[hall];exact q H2 s2
def z9j(H:Hp)(x:V):Prop:=∃(a:Aa)(o d:Nat),x=.ref a/\H a=some (.tup<|zw [o,d])/\o<=25/\d<=15
def z6S(D:zn K mg "are_units" (top 74))(G:Glo mg)(FE:FN P w K mg base 3 "is_unit" Vc z7U):FN P w K mg base 4 "are_units" Vc (z1L K z9j):=by
 refine FN.o D sc74 ?_;rintro _ _ A _ _ _ _ _ _ hr ⟨a,xs,rfl,ha,hz,hx,q⟩;refine⟨_,z8 (zl (qS (zq zZ rfl G.isinstance zD<|pa2 (pv 0)<|ZS "tuple" rfl G.tuple qi)
  (qZ (zq (jz rfl) rfl G.all boot_all (pa1 (ql (N:=["unit"]) (nt:=1) (ix:=[]) (cl:=[]) rfl (zT.plain vW vW rfl vW rfl) (J3<|pv 0)
   (fun _ _ _ _=>ZB (i:=0) (nd_1 _) rfl<|Or.inl rfl) (fun _ _ _ _=>qr) (fun _ _ _ _=>zk FE hr rfl<|pa1<|pv 0))))))),?_⟩
 symm
 refine⟨_,"tuple",_,true,rfl,.tup ha,rfl,_,rfl,iteT ?_⟩;refine⟨a,rfl,⟨_,SqT.of ha⟩,fun nl hnl=>Q9 (K:=K) (a:=a) (xs:=xs) (rest:=[]) (by lia) hnl (SqT.of ha) (fun i x H3 A hi s3 k=>?_) fun H2 s2 ⟨bs,hbs,hall⟩=>?_⟩
 ·obtain⟨b,o,d,rfl,hb,h1,h2⟩:=hx x (kH hi);exact⟨b,o,d,rfl,s3 _ _ hb,h1,h2,k H3<|Same.refl _⟩
 ·refine⟨nl,bs,rfl,hbs,?_⟩;rw[hall];exact q H2 s2
end
def z5u{K:ku}{a l:Aa}{xs:List V}{te:TE}{Rr:Hp->Prop}{H:Hp}{rest:List (Option V)}(f:Nat->V)(hn:xs.length<=1000)(hl:H l=none)(hx:SqT K H a xs)(hs:∀(i:Nat) x H3 (A:V->Hp->Prop),xs[i]?=some x->Same H H3->(∀H6,Same H3 H6->A (f i) H6)->te (some x::rest) H3 A)(hd:∀H2,Same H H2->H2 l=some (.lst<|(List.range xs.length).map f)->Rr H2):
  ∃W:Nat->Nat->List V->L2.St->Hp->Prop,(∃m,W 0 m [] (none::rest)<|upd H l<|.lst [])/\∀i m ys σ' H2,W i m ys σ' H2->
   ((Itt K a).stop i H2/\Rr H2)\/((Itt K a).go i H2/\∀x H3,(Itt K a).yld i H2 x H3->Qm 0 x σ' H3 (cqS tAll te l W i m ys)):=by
 obtain⟨g1,g2,g3⟩:=z3T hx;refine jy (fun σ=>∃x:Option V,σ=x::rest) (fun i x _=>xs[i]?=some x) (fun i v _=>v=f i) hn hl ⟨none,rfl⟩ g1 g2 g3 (fun i v H1 H2 h _=>h) (fun i x σ' H3 A hi s3 _ hY hσ k=>?_) (fun ys H2 s2 h2 hlen hR=>hd H2 s2 ?_)
 ·obtain⟨b,rfl⟩:=hσ;exact hs i x H3 (fun v H6=>A v (some x::rest) H6) hY s3 fun H6 s6=>k _ _ H6 ⟨_,rfl⟩ s6 rfl
 ·rw[h2];congr 2
  refine Af fun i=>?_
  rw[vh];by_cases hi:i < ys.length
  ·rw[kL hi,An (by lia),hR i _<|kL hi];rfl
  ·rw[vp (by lia),vp<|by rw[Am];lia];rfl
noncomputable def z4Z(rs:List (List Nat)):Nat:=(rs.map fun r=>r.headD 0).sum
section
inductive z1G(vs:List V)(H:Hp)(Q:VK)(E:XK):Prop
|mk (a:Aa) (as:List Aa) (rs:List (List Nat)):vs=[.ref a,.int ((z4Z rs:Nat):Int)]->H a=some (.tup<|as.map V.ref)->jW H as rs->okL rs->rs.length<=900->(∀H',Same H H'->Q (.bl true) H')->z1G vs H Q E
def sc75:zj ["thing","many"] ["thing","many"] (zc<|top 75):=fsM
def z4I:∀l:List Nat,(l.map Int.ofNat).sum=((l.sum:Nat):Int)
|[]=>rfl
|a::l=>by
  rw[kU,List.sum_cons,z4I l,List.sum_cons];simp only[Int.ofNat_eq_natCast];lia
def z70(D:zn K mg "are_lines" (top 75))(G:Glo mg)(GU:GloU mg)(FT:FN P w K mg base 4 "is_line_table" Vc z42):FN P w K mg base 5 "are_lines" ["thing","many"] z1G:=by
 refine FN.o D sc75 ?_;rintro _ _ A _ _ _ _ _ _ hr ⟨a,as,rs,rfl,ha,hT,ok,hz,q⟩;have hal:as.length=rs.length:=Paired.length hT;refine⟨_,z8 (zl (qS (zk FT hr rfl<|pa1<|pv 0)
  (qZ (jj qX (zq (z0B rfl) rfl GU.sum boot_sum (pa1 (ql (N:=["entry"]) (nt:=1) (ix:=[]) (cl:=[]) rfl (zT.plain vW vW rfl vW rfl) (J3<|pv 0)
   (fun _ _ _ _=>ZB (i:=0) (nd_1 _) rfl<|Or.inl rfl) (fun _ _ _ _=>qr) (fun _ _ _ _=>zG (Zf (K:=K) rfl) (pv 0) zb)))) (pv 1)<|zy _)))),?_⟩
 symm
 refine⟨a,as,rs,rfl,ha,hT,ok,hz,fun H1 s1=>⟨_,rfl,iteT ?_⟩⟩;have ha1:=s1 _ _ ha;have hT1:=hT.same s1;refine⟨a,rfl,⟨_,SqT.of ha1⟩,fun nl hnl=>z5u (K:=K) (a:=a) (xs:=as.map V.ref) (rest:=[]) (fun i=>.int<|Int.ofNat<|((rs[i]?).getD []).headD 0) (by rw[kl];lia) hnl (SqT.of ha1) (fun i x H3 A hi s3 k=>?_) fun H2 s2 h2=>?_⟩
 ·obtain⟨b,r,rfl,er,hb⟩:=z3U hT1 hi;obtain⟨m,l,rfl,k1,k2,k3⟩:=ok r (kH er);refine⟨b,_,_,_,rfl,rfl,SqT.of<|s3 _ _ hb,zm (j:=0) rfl,?_⟩;have:=k H3 (Same.refl _)
  rw[er] at this;exact this
 ·have e:(List.range (as.map V.ref).length).map (fun i=>V.int<|Int.ofNat<|((rs[i]?).getD []).headD 0)=((rs.map fun r=>r.headD 0).map Int.ofNat).map V.int:=by
   rw[kl,hal,Ak,Ak];refine Af fun i=>?_
   rw[vh,vh];by_cases hi:i < rs.length
   ·rw[An hi,kL hi];show some (V.int<|Int.ofNat<|((rs[i]?).getD []).headD 0)=_;rw[kL hi];rfl
   ·rw[vp (by rw[Am];lia),vp<|by lia];rfl
  rw[e] at h2;refine⟨nl,_,rfl,SqL.of h2,rfl,?_⟩;rw[z4I];have e2:decide (V.int (((rs.map fun r=>r.headD 0).sum:Nat):Int)=V.int ((z4Z rs:Nat):Int))=true:=kj rfl;rw[e2];exact q H2 (s1.trans s2)
def z2h(H:Hp)(c n u t l:Aa)(cs ns:List V)(us:List Aa)(ps:List (Nat × Nat))(ts:List Aa)(gt:List (List Nat))(ls:List Aa)(lt:List (List Nat)):Prop:=
 H c=some (.tup cs)/\H n=some (.tup ns)/\H u=some (.tup<|us.map V.ref)/\UnIn H us ps/\H t=some (.tup<|ts.map V.ref)/\jW H ts gt/\H l=some (.tup<|ls.map V.ref)/\jW H ls lt
structure z2g(cs ns:List V)(ps:List (Nat × Nat))(gt lt:List (List Nat)):Prop where
 kcs:∀x∈cs,Scal x/\zU x=true
 kns:∀x∈ns,Scal x/\ZV x=true
 kps:∀p∈ps,p.1<=25/\p.2<=15
 kgt:okG ps.length 0 gt
 klt:okL lt
 sum:z4Z lt=ps.length
 lcs:cs.length<=900
 lns:ns.length<=900
 lps:ps.length<=900
 llt:lt.length<=900
inductive z1F(vs:List V)(H:Hp)(Q:VK)(E:XK):Prop
|mk (c n u t l:Aa) (cs ns:List V) (us:List Aa) (ps:List (Nat × Nat)) (ts:List Aa) (gt:List (List Nat)) (ls:List Aa) (lt:List (List Nat)):vs=[.ref c,.ref n,.ref u,.ref t,.ref l]->z2h H c n u t l cs ns us ps ts gt ls lt->z2g cs ns ps gt lt->(∀H',Same H H'->Q (.bl true) H')->z1F vs H Q E
def UnIn.unitV{H:Hp}{us:List Aa}{ps:List (Nat × Nat)}(h:UnIn H us ps)(k:∀p∈ps,p.1<=25/\p.2<=15):∀x∈us.map V.ref,z9j H x:=by
 induction h with
|nil=>exact fun x hx=>by simp at hx
|cons a _ ih=>
  intro x hx;rcases kE.mp hx with rfl|hx
  ·exact⟨_,_,_,rfl,a,k _<|kQ ..⟩
  ·exact ih (fun p hp=>k p<|kR _ hp) x hx
def sc76:zj ["consts","names","units","table","lines"] ["consts","names","units","table","lines"] (zc<|top 76):=fsM
def z6X(D:zn K mg "are_parts" (top 76))(G:Glo mg)(F1:FN P w K mg base 5 "are_consts" Vc (z1L K fun _ x=>Scal x/\zU x=true))(F2:FN P w K mg base 3 "are_names" Vc (z1L K fun _ x=>Scal x/\ZV x=true))(F3:FN P w K mg base 4 "are_units" Vc (z1L K z9j))(F4:FN P w K mg base 4 "is_guard_table" ["thing","most"] z46)(F5:FN P w K mg base 5 "are_lines" ["thing","many"] z1G):FN P w K mg base 6 "are_parts" ["consts","names","units","table","lines"] z1F:=by
 refine FN.o D sc76 ?_;rintro _ _ _ _ _ _ _ _ _ hr ⟨c,n,u,t,l,cs,ns,us,ps,ts,gt,ls,lt,rfl,⟨hc,hn,hu,hU,ht,hT,hl,hL⟩,ok,q⟩;have hr3:=hr.mono (vW:3<=5);have hr4:=hr.mono (vW:4<=5);have hul:us.length=ps.length:=Paired.length hU;have z1:=ok.lcs;have z2:=ok.lns;have z3:=ok.lps;have z4:=ok.llt;refine⟨_,z6 (zV (PW.pt<|QZ (jw<|qH<|zk F1 hr rfl<|pa1<|pv 0)<|QZ (jw<|qH<|zk F2 hr3 rfl<|pa1<|pv 1)<|Zu<|jw<|qH<|zk F3 hr4 rfl<|pa1<|pv 2) (z8<|zl Z2) zC)
  (z8<|zl<|qS (zk F4 hr4 rfl<|pa2 (pv 3)<|zq zr rfl G.len zK<|pa1<|pv 2)<|qZ<|zk F5 hr rfl<|pa2 (pv 4)<|zq zr rfl G.len zK<|pa1<|pv 2),?_⟩
 symm
 refine⟨c,cs,rfl,hc,z1,ok.kcs,fun H1 s1=>⟨_,rfl,iteF ?_⟩⟩;refine⟨n,ns,rfl,s1 _ _ hn,z2,ok.kns,fun H2 s2=>⟨_,rfl,iteF ?_⟩⟩;have s12:=s1.trans s2;refine⟨u,_,rfl,s12 _ _ hu,by rw[kl];lia,(hU.same s12).unitV ok.kps,fun H3 s3=>⟨_,rfl,iteF ?_⟩⟩;have s13:=s12.trans s3;have e:((us.map V.ref).length:Int)=((ps.length:Nat):Int):=by rw[kl,hul]
 refine⟨u,_,rfl,.inr<|SqT.of<|s13 _ _ hu,?_⟩;rw[e];refine⟨t,ts,gt,ps.length,rfl,s13 _ _ ht,hT.same s13,ok.kgt,_,rfl,iteT ?_⟩;refine⟨u,_,rfl,.inr<|SqT.of<|s13 _ _ hu,?_⟩;rw[e,<-ok.sum];exact⟨l,ls,lt,rfl,s13 _ _ hl,hL.same s13,ok.klt,z4,fun H4 s4=>q H4<|s13.trans s4⟩
end
noncomputable def z9a(s:Stmt):List Stmt:=match s with
|.ClassDef _ _ _ b _ _ _ _ _ _ _=>b
|_=>[]
noncomputable def mU(i:Nat):Stmt:=(z9a<|top 78).getD i (.Pass ⟨0,0,0,0⟩)
def MN(P:Program)(w:World)(K:ku)(mg:Str->Option Ab)(base:Heap)(k:Nat)(C:Aa)(m:Str)(ps:List Str)(sp:Sp):Prop:=∃f fd,Meth K C m f/\Zt K fd ps []/\FnOk P w K mg base CX0 k f fd ps sp
def HasM(K:ku)(C:Aa)(m qual:Str)(st:Stmt):Prop:=∃f fd,Fun K m qual st f fd/\Meth K C m f
def IN(P:Program)(w:World)(K:ku)(mg:Str->Option Ab)(base:Heap)(k:Nat)(C:Aa)(ps:List Str)(sp:Sp):Prop:=∃f fd,Mk K C f/\Zt K fd ps []/\FnOk P w K mg base CX0 k f fd ps sp
def HasI(K:ku)(C:Aa)(qual:Str)(st:Stmt):Prop:=∃f fd,Fun K "__init__" qual st f fd/\Mk K C f
section
variable {C:Aa}
def MN.of{m qual:Str}{st:Stmt}{N ps:List Str}{sp:Sp}{k:Nat}(D:HasM K C m qual st)(S:zj N ps (zc st))(hb:∀(kV doc pm:Ab)(an:Option Aa)(cdv ct:Ab)(us:List Ab),us.length=ps.length->bindArgs (PySem.W.fnOf m qual (qF st) (zR st) (zc st) .none kV doc pm an cdv ct) ⟨us,[]⟩=pure (ps.zip us))(len:∀vs H Q E,sp vs H Q E->vs.length=ps.length)(hbody:∀(f:Aa)(cdv:Ab)(A:Around)(vZ:List Env)(s:Ac)(H:Hp)(vs:List V)(Q:VK)(E:XK),Room k (A.deeper<|envOfC qual (zc st) s.heap.objs.size f cdv)->sp vs H Q E->
   ∃t,PSs (cxOf CX0 P w K mg base N qual (zc st) f cdv A vZ s H E).nox (zR st) t/\t {nx:=fun _ H'=>Q .non H',rt:=Q} (L2.start N vs) H):MN P w K mg base (k+1) C m ps sp:=by
 obtain⟨f,fd,F,m⟩:=D;exact⟨f,fd,m,F.binds hb,F.ok S len<|hbody f⟩
def IN.of{qual:Str}{st:Stmt}{N ps:List Str}{sp:Sp}{k:Nat}(D:HasI K C qual st)(S:zj N ps (zc st))(hb:∀(kV doc pm:Ab)(an:Option Aa)(cdv ct:Ab)(us:List Ab),us.length=ps.length->bindArgs (PySem.W.fnOf "__init__" qual (qF st) (zR st) (zc st) .none kV doc pm an cdv ct) ⟨us,[]⟩=pure (ps.zip us))(len:∀vs H Q E,sp vs H Q E->vs.length=ps.length)(hbody:∀(f:Aa)(cdv:Ab)(A:Around)(vZ:List Env)(s:Ac)(H:Hp)(vs:List V)(Q:VK)(E:XK),Room k (A.deeper<|envOfC qual (zc st) s.heap.objs.size f cdv)->sp vs H Q E->
   ∃t,PSs (cxOf CX0 P w K mg base N qual (zc st) f cdv A vZ s H E).nox (zR st) t/\t {nx:=fun _ H'=>Q .non H',rt:=Q} (L2.start N vs) H):IN P w K mg base (k+1) C ps sp:=by
 obtain⟨f,fd,F,m⟩:=D;exact⟨f,fd,m,F.binds hb,F.ok S len<|hbody f⟩
end
section
variable {X:Cx}{k:Nat}{C:Aa}{x m:Str}{ps:List Str}{sp:Sp}{p pos apos:Pos}{o e:Expr}{es:List Expr}{ta:TE}{t:TA}
def z4p{pl:Sem Bool}(he:PE X o ta)(c:Cls X.K C)(F:MN X.prog X.w X.K X.mg X.base k C m ps sp)(hr:Room k X.A)(ht:autoParam (eval (.Call (.Attribute o m apos) [] [] pos) X.env=(do
   let ov <-eval o X.env
   standAt apos.atName
   let (f,first) <-holding [ov] (getMethod ov m pl)
   callWith pos f first (backTo pos<|starEach [] X.env) (backToKw pos<|keywordEach [] X.env))) aR._auto_1):
  PE X (.Call (.Attribute o m apos) [] [] pos) (z9r C m sp [] E0 ta tNil):=by
 obtain⟨f,fd,hm,hb,F⟩:=F;exact z6a he c hm F hr hb .nil z3i ht
def zbu(F:IN X.prog X.w X.K X.mg X.base k C ps sp)(hr:Room (k+1) X.A)(hg:Gl X x)(hm:X.mg x=some (.ref C))(ha:PA X (e::es) t)(hdb:autoParam ((x == ("__debug__":Str))=false) aR._auto_2)(he:autoParam (starEach (e::es) X.env=(false,eval e X.env)::starEach es X.env) aR._auto_1)(hpl:autoParam ((backTo pos<|starEach es X.env).any (·.1)=false) aR._auto_1):
  PE X (.Call (.Name x p) (e::es) [] pos) (z9s C sp [] E0 t):=by
 obtain⟨f,fd,M,hb,F⟩:=F;exact z8b M F hr hg hm hb .nil z3i ha hdb he hpl
end
section
variable {C:Aa}
structure UnC(K:ku)(C:Aa):Prop where
 cl:Cls K C
 pushed:Zj K C "pushed"
 named:Zj K C "named"
 pieces:Zj K C "pieces"
 stretches:Zj K C "stretches"
 lined:Zj K C "lined"
noncomputable def unF(c n u t l:Aa):List (Str × V):=[("pushed",.ref c),("named",.ref n),("pieces",.ref u),("stretches",.ref t),("lined",.ref l)]
inductive z44(C:Aa)(vs:List V)(H:Hp)(Q:VK)(E:XK):Prop
|mk (x dx c n u t l:Aa) (cs ns:List V) (us:List Aa) (ps:List (Nat × Nat)) (ts:List Aa) (gt:List (List Nat)) (ls:List Aa) (lt:List (List Nat)):vs=[.ref x,.ref c,.ref n,.ref u,.ref t,.ref l]->H x=some (.ins C dx [])->z2h H c n u t l cs ns us ps ts gt ls lt->z2g cs ns ps gt lt->(∀H',H' x=some (.ins C dx<|unF c n u t l)->(∀b o,H b=some o->b≠x->H' b=some o)->Q .non H')->z44 C vs H Q E
noncomputable abbrev NU0:List Str:=["self","consts","names","units","table","lines"]
def scU0:zj NU0 NU0 (zc<|mU 0):=fsM
def zU6{C:List PySem.Value->Prop}(h:∀a b c d e f,C [a,b,c,d,e,f]):∀us:List PySem.Value,us.length=6->C us:=by
 intro us hl;match us,hl with
|[a,b,c,d,e,f],_=>exact h a b c d e f
def z6E(D:HasI K C "Units.__init__" (mU 0))(c:UnC K C)(FP:FN P w K mg base 6 "are_parts" ["consts","names","units","table","lines"] z1F):IN P w K mg base 7 C NU0 (z44 C):=by
 refine IN.of D scU0 (fun _ _ _ _ _ _=>zU6 fun _ _ _ _ _ _=>rfl) (fun vs H Q E h=>by cases h;subst_vars;rfl) fun _ _ _ _ _ _ _ _ _ hr h=>?_
 obtain⟨x,dx,ca,na,ua,ta,la,cs,ns,us,ps,ts,gt,ls,lt,rfl,hx,hp,ok,q⟩:=h;refine⟨_,z6 (zV (jw<|qH<|zk FP hr rfl<|zf (pv 1)<|zf (pv 2)<|pa3 (pv 3) (pv 4)<|pv 5) jQ zC)
  (z6 (z0V (pv 0) (pv 1) rfl)<|z6 (z0V (pv 0) (pv 2) rfl)<|z6 (z0V (pv 0) (pv 3) rfl)<|z6 (z0V (pv 0) (pv 4) rfl)<|z8<|z0V (pv 0) (pv 5) rfl),?_⟩
 symm
 refine⟨ca,na,ua,ta,la,cs,ns,us,ps,ts,gt,ls,lt,rfl,hp,ok,fun H1 s1=>⟨_,rfl,iteF ?_⟩⟩;refine⟨x,C,dx,[],rfl,s1 _ _ hx,c.cl,c.pushed,by decide,?_⟩;refine⟨x,C,dx,_,rfl,z7,c.cl,c.named,(by show 1 < 1000;decide),?_⟩;refine⟨x,C,dx,_,rfl,z7,c.cl,c.pieces,(by show 2 < 1000;decide),?_⟩;refine⟨x,C,dx,_,rfl,z7,c.cl,c.stretches,(by show 3 < 1000;decide),?_⟩;refine⟨x,C,dx,_,rfl,z7,c.cl,c.lined,(by show 4 < 1000;decide),?_⟩;refine q _ z7 fun b o e hb=>?_
 rw[zg hb,zg hb,zg hb,zg hb,zg hb];exact s1 _ _ e
inductive jL(C:Aa)(f:Str)(vs:List V)(H:Hp)(Q:VK)(E:XK):Prop
|mk (x dx:Aa) (fs:List (Str × V)) (v:V):vs=[.ref x]->H x=some (.ins C dx fs)->fs.lookup f=some v->Q v H->jL C f vs H Q E
def scU1:zj ["self"] ["self"] (zc<|mU 1):=fsM
def z4M(D:HasM K C "consts" "Units.consts" (mU 1))(c:UnC K C):MN P w K mg base 1 C "consts" ["self"] (jL C "pushed"):=by
 refine MN.of D scU1 (fun _ _ _ _ _ _=>zU1 fun _=>rfl) (fun vs H Q E h=>by cases h;subst_vars;rfl) fun _ _ _ _ _ _ _ _ _ _ h=>?_
 obtain⟨x,dx,fs,v,rfl,hx,hv,q⟩:=h;exact⟨_,z8<|zl<|z4r (pv 0) rfl,x,C,dx,fs,v,rfl,hx,c.cl,c.pushed,hv,q⟩
def scU2:zj ["self"] ["self"] (zc<|mU 2):=fsM
def z6t(D:HasM K C "names" "Units.names" (mU 2))(c:UnC K C):MN P w K mg base 1 C "names" ["self"] (jL C "named"):=by
 refine MN.of D scU2 (fun _ _ _ _ _ _=>zU1 fun _=>rfl) (fun vs H Q E h=>by cases h;subst_vars;rfl) fun _ _ _ _ _ _ _ _ _ _ h=>?_
 obtain⟨x,dx,fs,v,rfl,hx,hv,q⟩:=h;exact⟨_,z8<|zl<|z4r (pv 0) rfl,x,C,dx,fs,v,rfl,hx,c.cl,c.named,hv,q⟩
def scU3:zj ["self"] ["self"] (zc<|mU 3):=fsM
def z6s(D:HasM K C "units" "Units.units" (mU 3))(c:UnC K C):MN P w K mg base 1 C "units" ["self"] (jL C "pieces"):=by
 refine MN.of D scU3 (fun _ _ _ _ _ _=>zU1 fun _=>rfl) (fun vs H Q E h=>by cases h;subst_vars;rfl) fun _ _ _ _ _ _ _ _ _ _ h=>?_
 obtain⟨x,dx,fs,v,rfl,hx,hv,q⟩:=h;exact⟨_,z8<|zl<|z4r (pv 0) rfl,x,C,dx,fs,v,rfl,hx,c.cl,c.pieces,hv,q⟩
end
noncomputable def nO(rs:List Row)(S:List Nat)(r:Row):Option Nat:=if inT r.op opsU=true then some (numR (csOf rs) (nsOf rs) (jm rs S) r) else none
noncomputable def psM(rs:List Row)(S:List Nat):List (Nat × Nat):=(rs.map fun r=>unR r<|dgO<|nO rs S r).flatten
def Jj(rs:List Row)(S:List Nat):jV (numF rs) S=rs.map fun r=>dgO (nO rs S r):=by
 unfold jV numF;rw[Ak];rfl
def z7j(rs:List Row)(S:List Nat)(r:Row):(unR r<|dgO<|nO rs S r).length=(dgO<|nO rs S r).length:=by
 unfold unR nO;by_cases c:inT r.op opsU=true
 ·rw[kz c,kz c];have:=(Zw<|numR (csOf rs) (nsOf rs) (jm rs S) r).1
  show ((dg _).dropLast.map _++[_]).length=(dg _).length;rw[km,kl,List.length_dropLast];show (dg _).length - 1+1=_;lia
 ·rw[ky c,ky c];rfl
def z4h(rs:List Row)(S:List Nat):(psM rs S).length=(szs (numF rs) S).sum:=by
 unfold psM szs;rw[List.length_flatten,Jj,Ak,Ak];congr 1
 exact Ao fun r _=>z7j rs S r
def z1e{l:List Nat}(h:l≠[]):l.getLastD 0∈l:=by
 rw[List.getLastD_eq_getLast?,List.getLast?_eq_some_getLast h];exact List.getLast_mem h
def zbA{rs:List Row}(hc:Code rs){S:List Nat}(L:Zr (numF rs) rs.length S){r:Row}(hr:r∈rs){k:Nat}(h:nO rs S r=some k):k < 4096:=
 (Qj hc).lt S L.len L.le3 k (yf.mpr ⟨r,hr,h⟩)
def zbs{rs:List Row}(hc:Code rs){S:List Nat}(L:Zr (numF rs) rs.length S):∀p∈psM rs S,p.1<=25/\p.2<=15:=by
 intro p hp;unfold psM at hp;obtain⟨l,hl,hp⟩:=List.mem_flatten.mp hp;obtain⟨r,hr,rfl⟩:=yf.mp hl;unfold unR at hp;by_cases c:inT r.op opsU=true
 ·rw[kz c] at hp;have e:nO rs S r=some (numR (csOf rs) (nsOf rs) (jm rs S) r):=kz c;have hk:=zbA hc L hr e;rw[e] at hp;generalize numR (csOf rs) (nsOf rs) (jm rs S) r=k at *;have hd:=zbX hk;have hne:dg k≠[]:=fun z=>by have:=(Zw k).1;rw[z] at this;cases this
  rcases kS.mp hp with hp|hp
  ·obtain⟨x,hx,rfl⟩:=yf.mp hp;have:=hd x (List.dropLast_subset _ hx)
   exact⟨vj _,by show x<=15;lia⟩
  ·rw[ko.mp hp];have h1:=List.idxOf_lt_length_iff.mpr (Ji.mp c);have h2:opsU.length=26:=rfl;have h3:=hd _ (z1e hne);exact⟨by show opsU.idxOf r.op<=25;lia,by show (dg k).getLastD 0<=15;lia⟩
 ·rw[ky c] at hp;cases hp
def z4z{most:Nat}{f:Nat × Nat->Option (List Nat)}(hf:∀p r,f p=some r->∃g d:Nat,r=[p.1,p.2,g,d]/\g<=most/\d<=999):∀(st:List (Nat × Nat))(low a b:Nat),Chn a st b->b<=most->low<=a->okG most low (st.filterMap f)
|[],_,_,_,_,_,_=>trivial
|(x,y)::st,low,a,b,⟨h1,h2,h3⟩,hb,hl=>by
  have h4:=h3.mem.1;cases e:f (x,y) with
 |none=>
   rw[List.filterMap_cons_none e];exact z4z hf st low y b h3 hb (by lia)
 |some r=>
   rw[List.filterMap_cons_some e];obtain⟨g,d,rfl,hg,hd⟩:=hf _ _ e;exact⟨x,y,g,d,rfl,by lia,h2,by lia,hg,hd,z4z hf st y y b h3 hb<|kg _⟩
def zbJ{rs:List Row}{fin:Fnd}(hB:BdF rs 150 fin)(hfl:fin.length=rs.length){S:List Nat}(L:Zr (numF rs) rs.length S):okG (psM rs S).length 0 (gtM rs fin S):=by
 have hl:(psM rs S).length=S.sum:=by rw[z4h,L.fix]
 have hg:(gsU fin S).length=S.sum:=by
  unfold gsU topG;exact Qq _ _ (by rw[kl,hfl,L.len])
 rw[hl];unfold gtM;refine z4z (fun p r h=>?_) _ 0 0 _ (JP _) (kY hg) (kg _);unfold gtE at h;obtain⟨g,hg,rfl⟩:=Ad.mp h;have hm:(gsU fin S)[p.1]?=some (some g):=by
  cases e:(gsU fin S)[p.1]? with
 |none=>rw[e] at hg;cases hg
 |some o=>rw[e] at hg;exact vI some hg
 have hm:=z0k (kH hm);unfold topG at hm;obtain⟨o',ho',e⟩:=yf.mp hm;cases o' with
|none=>cases e
|some st=>
  obtain⟨q,hq⟩:=List.mem_iff_getElem?.mp ho';obtain⟨_,hd0,hd1⟩:=(hB q st hq).gs g (z0o e);exact⟨_,_,rfl,z2N,by lia⟩
def z4O{rs:List Row}{S:List Nat}(h:S.length=rs.length):(lnU rs S).length=S.sum:=by
 unfold lnU;exact Qq _ _ (by rw[kl,h])
def zbB{rs:List Row}(hc:Code rs){S:List Nat}(L:Zr (numF rs) rs.length S):okL (ltM rs S):=by
 intro r hr;unfold ltM at hr;obtain⟨p,hp,rfl⟩:=yf.mp hr;obtain⟨h1,h2,h3⟩:=(JP<|lnU rs S).mem.2 p hp;have hll:=z4O (rs:=rs) L.len;have hs:=ZK L.le3;have hhi:=hc.hi;have hL:=L.len;refine⟨_,_,rfl,by lia,by lia,?_⟩;have hlt:p.1 < (lnU rs S).length:=by lia
 have hm:(lnU rs S).getD p.1 0∈lnU rs S:=by
  rw[List.getD_eq_getElem?_getD,kL hlt];exact List.getElem_mem hlt
 generalize (lnU rs S).getD p.1 0=x at hm;unfold lnU at hm;obtain⟨r,hr,rfl⟩:=yf.mp (z0k hm);have h:=hc.ok r hr;unfold jX rowV zW at h;simp only[yd,ye] at h;have:=h.2.2
 lia
def zal{rs:List Row}{S:List Nat}(L:Zr (numF rs) rs.length S):z4Z (ltM rs S)=(psM rs S).length:=by
 have hl:(psM rs S).length=S.sum:=by rw[z4h,L.fix]
 have:=(JP<|lnU rs S).sum
 rw[hl,<-z4O (rs:=rs) L.len,<-this,Nat.zero_add];unfold z4Z ltM;rw[Ak];rfl
def zam{rs:List Row}(hc:Code rs){S:List Nat}(L:Zr (numF rs) rs.length S):(ltM rs S).length<=450:=by
 have h1:=z0K (lnU rs S) (lnU rs S).length;have hll:=z4O (rs:=rs) L.len;have hs:=ZK L.le3;have hhi:=hc.hi;have hL:=L.len;unfold ltM;rw[kl];unfold stL;lia
def z96{rs:List Row}(hc:Code rs):∀x∈csOf rs,Scal x/\zU x=true:=by
 intro x hx;have hx:=Z3.mp hx;obtain⟨r,hr,rfl⟩:=yf.mp hx;obtain⟨h1,h2⟩:=Al.mp hr;have h:=jB hc h1 (kD h2);have e:qk "value" r.arg=zU r.arg:=by unfold qk;rw[kz rfl]
 exact⟨Q8 h,e▸h⟩
def zbv{rs:List Row}(hc:Code rs):∀x∈nsOf rs,Scal x/\ZV x=true:=by
 intro x hx;have hx:=Z3.mp hx;obtain⟨r,hr,rfl⟩:=yf.mp hx;obtain⟨h1,h2⟩:=Al.mp hr;have h:=jB hc h1 (kD h2);have e:qk "name" r.arg=ZV r.arg:=by unfold qk;rw[ky vW,kz rfl]
 exact⟨Q8 h,e▸h⟩
def z6k{rs:List Row}(hc:Code rs){fin:Fnd}(hB:BdF rs 150 fin)(hfl:fin.length=rs.length){S:List Nat}(L:Zr (numF rs) rs.length S):z2g (csOf rs) (nsOf rs) (psM rs S) (gtM rs fin S) (ltM rs S):=by
 have hl:(psM rs S).length=S.sum:=by rw[z4h,L.fix]
 have hs:=ZK L.le3;have hhi:=hc.hi;have hL:=L.len;have h1:=jE (qv rs "value");have h2:=qE rs "value";have h3:=jE (qv rs "name");have h4:=qE rs "name";have h5:=zam hc L;exact⟨z96 hc,zbv hc,zbs hc L,zbJ hB hfl L,zbB hc L,zal L,by unfold csOf;lia,by unfold nsOf;lia,by lia,by lia⟩
end My
namespace L2
section
variable {prog:Program}{w:World}{A:Around}{E:Ab->Ac->Prop}{s:Ac}
def z2b{Q:List Ab->Ac->Prop}{T:String}{r d:Aa}{n:Nat}{P:Nat->Ab->Prop}{OK:Heap->Prop}(K:PySem.W.KdlSrc prog w T r d n P OK)(hh:A.handled=none)(hok:OK s.heap)(hn:n<=sizeLine)(hQ:∀h' tk acc',(∀b o',s.heap.get? b=some o'->h'.get? b=some o')->ItemsOf P acc' n->Q acc'.toList {s with heap:=h',toks:=tk}):
  wpAny (model prog w) A (collect<|.ref r) Q E s:=by
 unfold collect;refine va (wpAny_runValue<|codeAny_builtin F.entry_proto_collect ?_);rw[Around.under_plainId F.plain_proto_collect _];show wpAny _ A.in1 (newList [] >>= fun l=>again<|.builtin "list.__iadd__" ⟨[l,.ref r],[]⟩) _ _ s;refine va (vJ ?_);refine ve ⟨plainId_quiet F.plain_list_iadd _,codeAny_builtin F.entry_list_iadd ?_⟩;rw[Around.under_plainId F.plain_list_iadd _];show wpAny _ A.in1 (Builtin.List.listExtendWith (.ref s.heap.objs.size) (.ref r)<|.ref s.heap.objs.size) _ _ _;have hS:(s.heap.push {cls:=.type "list",data:=.seq ([]:List Ab).toArray}).get? s.heap.objs.size=some {cls:=.type "list",data:=.seq #[] 0}:=vg _ rfl;have hlt:=K.there _ hok;have fin':∀h' tk acc' c',(∀b o,b≠s.heap.objs.size->(s.heap.push {cls:=.type "list",data:=.seq ([]:List Ab).toArray}).get? b=some o->h'.get? b=some o)->
   h'.get? s.heap.objs.size=some {cls:=.type "list",dict:=none,data:=.seq acc' c',slots:=#[]}->ItemsOf P acc' n->
   wpAny (model prog w) A (match Value.ref s.heap.objs.size with
   |Value.ref a=>do
     match (<-load a).data with
     |Data.seq xs _=>pure xs.toList
     |_=>unsupported "internal:collect"
   |_=>unsupported "internal:collect") Q E {s with heap:=h',toks:=tk}:=by
  intro h' tk acc' c' hk hS' hacc;show wpAny _ A (load s.heap.objs.size >>= _) _ _ _;refine va (wpAny_load hS' ?_);refine ve ?_;exact hQ h' tk acc' (fun b o hb=>hk b o (vn<|vf hb)<|vb _ hb) hacc
 refine vM (PySem.W.kdl_extend (A:=A) (R:=fun res s'=>∃h' tk acc' c',(∀b o,b≠s.heap.objs.size->(s.heap.push {cls:=.type "list",data:=.seq ([]:List Ab).toArray}).get? b=some o->h'.get? b=some o)/\
   h'.get? s.heap.objs.size=some {cls:=.type "list",dict:=none,data:=.seq acc' c',slots:=#[]}/\ItemsOf P acc' n/\res=.ok (.ret<|.ref s.heap.objs.size)/\s'={s with heap:=h',toks:=tk})
  (s:={s with heap:=s.heap.push {cls:=.type "list",data:=.seq ([]:List Ab).toArray} }) K hh (K.keep _ _ hok fun b _ o e=>vb _ e) _ (As hlt.1) (As hlt.2) _ _ hS (fun h' tk acc' c' k1 k2 k3=>⟨h',tk,acc',c',k1,k2,k3,rfl,rfl⟩) hn) (fun fin s' h=>?_) (fun e s' h=>?_)
 ·cases fin with
 |done f=>
   obtain⟨h',tk,acc',c',k1,k2,k3,e,rfl⟩:=h;cases e;exact fin' h' tk acc' c' k1 k2 k3
 |again c'=>exact⟨h.1,codeAny_mono h.2 fun r s'' hr=>by obtain⟨h',tk,acc',c',k1,k2,k3,rfl,rfl⟩:=hr;exact fin' h' tk acc' c' k1 k2 k3⟩
 ·obtain⟨_,_,_,_,_,_,_,e,_⟩:=h;cases e
end
def Jt{prog:Program}{w:World}{A:Around}{R:Result->Ac->Prop}{s:Ac}{Kt:Type}[DecidableEq Kt]{knd:KeyKind prog w Kt}{d:Aa}{kvs:List (Kt × Ab)}{ep:Nat}(lo:(d == sysModules)=false)(hlen:kvs.length<=1000)(hh:A.handled=none)(hd:s.heap.DictAt knd d kvs ep)(h:∀(h':Heap)(tk:Nat)(acc':Array Ab),(∀b o',s.heap.get? b=some o'->h'.get? b=some o')->ItemsOf (fun i v=>∃k x,kvs[i]?=some (k,x)/\knd.is k v=true) acc' kvs.length->R (.ok<|.ret<|.ref h'.objs.size) {s with heap:=h'.push {cls:=.type "tuple",data:=.seq acc'},toks:=tk}):
  wpAny (model prog w) A.in1 (Builtin.«tuple.__new__» ⟨[.type "tuple",.ref d],[]⟩) (fun fin s'=>match fin with|.done f=>R (.ok f) s'|.again c'=>c'.quiet=true/\codeAny (model prog w) A c' R s') (fun e s'=>R (.error e) s') s:=by
 obtain⟨hp,g,dd,tk,os⟩:=s;have hsub:=sub_tuple_self;have hinit:=init_tuple_lookup;have hmh:=madeHere_tuple;have hT:Shared.TypeIs ⟨hp,g,dd,tk,os⟩ (.ref d) "dict":=hd.dictOf.typeIs;obtain⟨ob,es,hob,hex,hdat,r3⟩:=id hd
 wp_walk using AutoSeq1.wpAny_loadPart' hob,wpAny_typeOf hT,z2b (A:=A.in1) (s:=⟨hp,g,dd,tk,os⟩) (PySem.W.kdl_dict (knd:=knd) (kvs:=kvs) (ep:=ep) lo) (show A.in1.handled=none from hh) hd (by rw[sizeLine_eq];lia)
 intro h' tk' acc' hk hacc;show wpAny _ _ (Builtin.Tuple.tupleExact acc'.toList.toArray >>= fun v=>ret v) _ _ _;have e:acc'.toList.toArray=acc':=by simp
 rw[e];unfold Builtin.Tuple.tupleExact;refine va (vJ ?_<|by show acc'.size<=sizeLine;rw[hacc.1,sizeLine_eq];lia);exact ve (h h' tk' acc' hk hacc)
section
variable {X:Cx}
def z2c(hc:X.calm=true):Zs X (.type "tuple") (fun xs H Q=>∃d kvs,xs=[.ref d]/\Rd H d (.dK kvs)/\kvs.length<=1000/\∀l,H l=none->Q (.ref l) (upd H l<|.tup (kvs.map fun p=>kV p.1))):=by
 intro vY s σ H xs us Q I r h;obtain⟨d,kvs,rfl,hd,hlen,q⟩:=h;obtain⟨u,rfl,ru⟩:=Js r;cases ru;obtain⟨hz,hsy,vs,rel,dd⟩:=z1l I.hok hd;obtain⟨ob,es,ep,hob,hex,hdat,r3⟩:=id dd;have hm:s.heap.DictAt (zX X.prog X.w) d vs ep:=⟨ob,es,hob,hex,hdat,r3⟩
 have hvl:kvs.length=vs.length:=rel.length;refine callType_newIn (S:=fun A R s=>A.handled=none/\s.heap.DictAt (zX X.prog X.w) d vs ep/\∀(h':Heap)(tk:Nat)(acc':Array Ab),(∀b o',s.heap.get? b=some o'->h'.get? b=some o')->ItemsOf (fun i v=>∃k x,vs[i]?=some (k,x)/\(zX X.prog X.w).is k v=true) acc' vs.length->R (.ok<|.ret<|.ref h'.objs.size) {s with heap:=h'.push {cls:=.type "tuple",data:=.seq acc'},toks:=tk})
  F.called_tuple (by decide) (F.typeCall_tuple_1 _) (F.newCall_tuple_1 _) (fun obj=>F.args_object_init_2 obj _) F.entry_tuple_new
  (fun A R s zz=>by obtain⟨h1,h2,h3⟩:=zz;exact Jt hsy (by lia) h1 h2 h3) ⟨I.ok.hd hc,hm,fun h' tk acc' hk hacc=>⟨⟨_,vg _ rfl,rfl⟩,?_⟩⟩
 have hv':Vals (kvs.map fun p=>kV p.1) acc'.toList:=by
  refine jD (by have h1:=hacc.1;have h2:acc'.toList.length=acc'.size:=Array.length_toList;rw[kl];lia) fun j x y hx hy=>?_
  rw[vh] at hx;obtain⟨p,hp,rfl⟩:=Ad.mp hx;obtain⟨u,hu,_⟩:=rel.get hp;obtain⟨k,z,e1,e2⟩:=hacc.2 j y (by rw[<-Array.getElem?_toList];exact hy);rw[hu] at e1;cases e1;exact z18 e2
 have I3:=I.kept (t':=tk) hk;have ea:acc'.toList.toArray=acc':=by simp
 refine⟨.ref h'.objs.size,_,I3.laid (t':=tk) (fun b o e=>vb _ e) (kg _) (show qq X.prog X.w _ _ _ (.tup (kvs.map fun p=>kV p.1)) from ⟨by rw[kl];exact hz,acc'.toList,hv',?_⟩),rfl,q _<|I3.hok.fresh<|kg _⟩;rw[ea];exact IsTup.new _ _
end
section
variable {X:Cx}
def z1Q{elt iter tg iter2 tg2:Expr}{N:List Str}{nt:Nat}{ix:List Nat}{y:Str}{i:Nat}{py spos:Pos}{scope:Scope}{cl:List (Str × Aa)}{pos:Pos}{wi wi2:TI}{g g2:TG}{te:TE}(hc:X.calm=true)(hN:X.N.Nodup)(hy:X.N[i]?=some y)(hl:Loc X.env.scope y)(sc:zT X N nt ix scope cl)(hi:PI X tg iter wi)(hg:∀(s:Ac)(H:Hp)(fp:List Aa)(C:Aa),PG (zt X N scope cl s H fp C) tg g)(hi2:∀(s:Ac)(H:Hp)(fp:List Aa)(C:Aa),PI (zt X N scope cl s H fp C) tg2 iter2 wi2)(hg2:∀(s:Ac)(H:Hp)(fp:List Aa)(C:Aa),PG (zt X N scope cl s H fp C) tg2 g2)(he:∀(s:Ac)(H:Hp)(fp:List Aa)(C:Aa),PE (zt X N scope cl s H fp C) elt te)(hsw:autoParam (swapsWith (.ListComp elt [⟨tg,iter,[],0⟩,⟨tg2,iter2,[],0⟩] scope pos) (some<|.Name y py) spos.line X.env=pure true) aR._auto_1)(hs:∀x,foldedSetIterable iter X.env x=pure x:=by intro _;rfl)(hs2:∀x C,foldedSetIterable iter2 (compEnvC scope cl C X.env) x=pure x:=by intro _ _;rfl)(hf:X.fn y=true\/X.env.scope.names.lookup y=some .local:=by first|exact .inl rfl|exact .inr rfl|assumption):
  PS X (.Assign [.Name y py] (.ListComp elt [⟨tg,iter,[],0⟩,⟨tg2,iter2,[],0⟩] scope pos) spos) (z2l i<|z7q nt ix wi g wi2 g2 te):=by
 intro vY s σ H D I h;rw[exec_Assign_Name_used _ _ _ _ hsw];refine va (wpAny_standAt<|va ?_);show wpAny _ X.A (do let _ <-comprehension (.ListComp elt [⟨tg,iter,[],0⟩,⟨tg2,iter2,[],0⟩] scope pos) scope X.env _ (newList []) false (eval iter X.env) (some<|assign (.Name y py) X.env)) _ _ s;refine va (vM (wpAny_comprehension_free (use:=some (assign (.Name y py) X.env)) (Q:=fun _ s'=>SP X vY D .next s') (E:=X.xe) rfl hs sc.clos sc.kind sc.names
  (thn (hi vY s σ H _ I h) fun v s1 h1=>thn h1 fun itv s2 h2=>?_)) (fun _ s' hq=>ve<|ve hq) fun _ _ e=>e)
 obtain⟨it,fp,tn,J,H2,e,I2,T,st2,f2,q2⟩:=h2;subst e;refine Jm (Q:=fun v H1=>D.nx (σ.set i<|some v) H1) (RR:=fun acc C=>compPost (model X.prog X.w) X.A X.xe (some<|assign (.Name y py) X.env) (fun _ s'=>SP X vY D .next s') acc C) hc sc I2 T st2 f2 hg hi2 hg2 hs2 he q2 ?_;intro l C s' H' m I' n' c1 c2 c3 c4 c5 q';show wpAny _ X.A (assign (.Name y py) X.env<|.ref l) _ _ _;refine wpAny_assign_Name (QV I' hN hy hl (v:=.ref l) rfl (fun s'' I'' k=>?_) hf);obtain⟨a,sb,ha⟩:=k;have hne:C≠a:=by
  rcases ha with ha|ha
  ·rw[ha];exact c1
  ·exact fun z=>c4 _ _ ha z.symm
 refine⟨m,n'.sameBut sb hne,fun h' hs'=>?_⟩;exact⟨_,H',I''.turned (t':=s''.toks) (it:=C) (fun b o hb e=>(hs'.2 b hb).trans e) c2 c1 (.inr c3) c4 c5,q'⟩
end
end L2
namespace My
open L2
variable {P:Program}{w:World}{K:ku}{mg:Str->Option Ab}{base:Heap}
def z67{X:Cx}{K:ku}{tg l:Expr}{t:TE}(hK:X.K=K)(h:PE X l t):PI X tg l (zaC K t):=by subst hK;exact qy h
def z51{H H':Hp}{v:V}{o:Option Gd}(h:qL H v o)(s:Same H H'):qL H' v o:=by
 cases o with
|none=>exact h
|some g=>
  obtain⟨a,rfl,ha⟩:=h;exact⟨a,rfl,s _ _ ha⟩
def UnIn.keepP{H H':Hp}{us:List Aa}{ps:List (Nat × Nat)}{p:Aa}{ys:List V}(h:UnIn H us ps)(hp:H p=some (.lst ys))(k:∀b o,H b=some o->b≠p->H' b=some o):UnIn H' us ps:=
 Paired.mapP h fun a q e=>k _ _ e fun z=>by rw[z,hp] at e;cases e
def z2z{α β:Type}{R:α->β->Prop}:∀{as:List α}{ps:List β}{bs:List α}{qs:List β},Paired R as ps->Paired R bs qs->Paired R (as++bs) (ps++qs)
|_,_,_,_,.nil,h=>h
|_,_,_,_,.cons a t,h=>.cons a (z2z t h)
def z0T{α:Type}{R:Aa->α->Prop}:∀{ys:List V}{xs:List α},ys.length=xs.length->(∀(i:Nat) v,ys[i]?=some v->∃t x,v=.ref t/\xs[i]?=some x/\R t x)->∃ts:List Aa,ys=ts.map V.ref/\Paired R ts xs
|[],[],_,_=>⟨[],rfl,.nil⟩
|[],_::_,h,_=>by cases h
|_::_,[],h,_=>by cases h
|y::ys,x::xs,h,k=>by
  obtain⟨ts,e,hT⟩:=z0T (R:=R) (ys:=ys) (xs:=xs) (by simpa using h) fun i v e=>by
   have:=k (i+1) v (by simpa using e)
   simpa using this
  obtain⟨t,x',rfl,e',ht⟩:=k 0 y rfl;cases e';exact⟨t::ts,by rw[e];rfl,.cons ht hT⟩
def z2G:∀(i:Nat)(ns:List Str),(nkF i ns).map (fun p=>kV p.1)=ns.map V.str
|_,[]=>rfl
|i,x::ns=>by
  show V.str x::(nkF (i+1) ns).map _=V.str x::_;rw[z2G (i+1) ns]
noncomputable def psT(rs:List Row)(S:List Nat)(i:Nat):List (Nat × Nat):=((rs.take i).map fun r=>unR r<|dgO<|nO rs S r).flatten
def QL{rs:List Row}{S:List Nat}{i:Nat}{r:Row}(h:rs[i]?=some r):psT rs S (i+1)=psT rs S i++unR r (dgO<|nO rs S r):=by
 unfold psT;rw[qN h,kK,List.flatten_append];simp
def z7k(rs:List Row)(S:List Nat)(r:Row):(unR r<|dgO<|nO rs S r).length<=3:=by
 rw[z7j];exact z5n _
def z1R{rs:List Row}{S:List Nat}:∀i,(psT rs S i).length<=3 * i
|0=>by simp[psT]
|i+1=>by
  have ih:=z1R (rs:=rs) (S:=S) i;by_cases h:i < rs.length
  ·rw[QL<|kL h,km];have:=z7k rs S rs[i]
   lia
  ·have e:psT rs S (i+1)=psT rs S i:=by
    unfold psT;rw[List.take_of_length_le (by lia),List.take_of_length_le<|by lia]
   rw[e];lia
def z2h.keep{H H':Hp}{c n u t l:Aa}{cs ns:List V}{us:List Aa}{ps:List (Nat × Nat)}{ts:List Aa}{gt:List (List Nat)}{ls:List Aa}{lt:List (List Nat)}(h:z2h H c n u t l cs ns us ps ts gt ls lt)(k:Same H H'):z2h H' c n u t l cs ns us ps ts gt ls lt:=by
 obtain⟨h1,h2,h3,h4,h5,h6,h7,h8⟩:=h;exact⟨k _ _ h1,k _ _ h2,k _ _ h3,UnIn.same h4 k,k _ _ h5,jW.same h6 k,k _ _ h7,jW.same h8 k⟩
section
variable {C:Aa}
inductive z5W(K:ku)(C:Aa)(vs:List V)(H:Hp)(Q:VK)(E:XK):Prop
|mk (l:_) (as:_) (rs:_) (fin:_):vs=[.ref l]->H l=some (.lst<|as.map V.ref)->zI H as rs->Code rs->Zz rs=some fin->fin.length=rs.length->(∀x dx c n u t ll us ts ls S H',Same H H'->H x=none->H' x=some (.ins C dx<|unF c n u t ll)->Zr (numF rs) rs.length S->z2h H' c n u t ll (csOf rs) (nsOf rs) us (psM rs S) ts (gtM rs fin S) ls (ltM rs S)->Q (.ref x) H')->z5W K C vs H Q E
noncomputable abbrev N94:List Str:=["code","guards","consts","names","digits","sizes","units"]
def sc94:zj N94 ["code"] (zc<|top 94):=fsM
def z8o:(["row","row_digits","unit"]:List Str).Nodup:=vW
def zae:(["is_truth","value"]:List Str).Nodup:=vW
def z3K{H:Hp}{l dl p:Aa}{as das:List Aa}{rs:List Row}{S:List Nat}{g:TG}{wi2:TI}{Rr:Hp->Prop}(hl:H l=some (.lst<|as.map V.ref))(hR:zI H as rs)(hlen:rs.length<=150)(hdl:H dl=some (.lst<|das.map V.ref))(hD:Qr H das (jV (numF rs) S))(hp:H p=none)(hg:∀t u v a b c H Q,SqT K H t [u,v]->Q [some u,some v,c] H->g (.ref t) [a,b,c] H Q)(hw:∀a b c H R,z2p K [a,b] H (fun x H1=>∃a,x=.ref a/\(∃xs,SqL K H1 a xs)/\R (Itl K a) H1) E0->wi2 [some a,some b,c] H R)(hd:∀us H2,Same H H2->H2 p=some (.lst<|us.map V.ref)->UnIn H2 us (psM rs S)->Rr H2):
  ∃W:Nat->Nat->List V->L2.St->Hp->Prop,(∃m,W 0 m [] [none,none,none]<|upd H p<|.lst [])/\∀i m ys σ' H2,W i m ys σ' H2->
   ((Itz K l dl).stop i H2/\Rr H2)\/((Itz K l dl).go i H2/\∀x H3,(Itz K l dl).yld i H2 x H3->g x σ' H3 fun σ2 H4=>wi2 σ2 H4 fun J2 H5=>∃W2:Nat->Nat->List V->L2.St->Hp->Prop,(∃m2,W2 0 m2 ys σ2 H5)/\∀i2 m2 ys2 σ3 H6,W2 i2 m2 ys2 σ3 H6->
    (J2.stop i2 H6/\∃m',m' < m/\W (i+1) m' ys2 σ3 H6)\/(J2.go i2 H6/\∀x H7,J2.yld i2 H6 x H7->Qm 2 x σ3 H7 fun σ4 H8=>tVar 2 σ4 H8 fun v H9=>H9 p=some (.lst ys2)/\ys2.length < sizeLine/\∃m',m' < m2/\W2 (i2+1) m' (ys2++[v]) σ4 (upd H9 p<|.lst (ys2++[v])))):=by
 have hal:as.length=rs.length:=Paired.length hR;have hdl':das.length=rs.length:=by rw[Paired.length hD,Jj,kl]
 refine⟨fun i m ys σ H2=>m=rs.length - i/\i<=rs.length/\(∃a b c:Option V,σ=[a,b,c])/\Same H H2/\H2 p=some (.lst ys)/\∃us:List Aa,ys=us.map V.ref/\UnIn H2 us (psT rs S i),⟨_,rfl,vj _,⟨none,none,none,rfl⟩,ze hp _,z7,[],rfl,.nil⟩,?_⟩;rintro i m ys σ' H2 ⟨rfl,hi,⟨x0,x1,x2,rfl⟩,s2,hp2,us,rfl,hU⟩;have q1:SqL K H2 l (as.map V.ref):=SqL.of (s2 _ _ hl);have q2:SqL K H2 dl (das.map V.ref):=SqL.of (s2 _ _ hdl);by_cases hlt:i < rs.length
 ·have er:rs[i]?=some rs[i]:=kL hlt;obtain⟨a,ha,hat⟩:=qV hR er;have ed:(jV (numF rs) S)[i]?=some (dgO<|nO rs S rs[i]):=by rw[Jj,vh,er];rfl
  obtain⟨b,hb,hbt⟩:=qV hD ed;generalize rs[i]=r at *;have ea:(as.map V.ref)[i]?=some (.ref a):=by rw[vh,ha];rfl
  have eb:(das.map V.ref)[i]?=some (.ref b):=by rw[vh,hb];rfl
  refine .inr ⟨⟨_,_,_,_,q1,q2,ea,eb⟩,fun x H3 y=>?_⟩;obtain⟨t,y,z,rfl,ht,rfl,y1,y2⟩:=y;have y1:=y1 _ q1;have y2:=y2 _ q2;rw[ea] at y1;rw[eb] at y2;cases y1;cases y2;have s3:=ze ht (.tup [.ref a,.ref b]);refine hg _ _ _ _ _ _ _ _ (SqT.of z7) ?_;have hp3:=s3 _ _ hp2;have s23:=s2.trans s3;have hU3:=hU.same s3;generalize upd H2 t (.tup [.ref a,.ref b])=H3 at *;refine hw _ _ _ _ _ ⟨a,b,r,_,rfl,s23 _ _ hat,SqL.of<|s23 _ _ hbt,fun c=>?_,z5n _,fun lp uR H5 s5 hlp hlp5 hUR=>?_⟩
  ·unfold nO;rw[kz c];intro z;have:=(Zw<|numR (csOf rs) (nsOf rs) (jm rs S) r).1
   rw[show dg _=[] from z] at this;cases this
  have s25:=s23.trans s5;have hp5:=s5 _ _ hp3;have nlp:lp≠p:=fun z=>by rw[z,hp3] at hlp;cases hlp
  have hur:uR.length=(unR r<|dgO<|nO rs S r).length:=Paired.length hUR;have h3:=z7k rs S r;have hul:us.length=(psT rs S i).length:=Paired.length hU;have hb:=z1R (rs:=rs) (S:=S) i;have hU5:=hU3.same s5;refine⟨lp,rfl,⟨_,SqL.of hlp5⟩,fun i2 m2 ys2 σ3 H6=>m2=uR.length - i2/\i2<=uR.length/\(∃c:Option V,σ3=[some<|.ref a,some<|.ref b,c])/\Same H H6/\H6 p=some (.lst ys2)/\(∀e o,H5 e=some o->e≠p->H6 e=some o)/\ys2=(us++uR.take i2).map V.ref,⟨_,rfl,vj _,⟨_,rfl⟩,s25,hp5,fun e o h _=>h,by simp⟩,?_⟩;rintro i2 m2 ys2 σ3 H6 ⟨rfl,hi2,⟨c,rfl⟩,s6,hp6,k6,rfl⟩;have hlp6:SqL K H6 lp (uR.map V.ref):=SqL.of (k6 _ _ hlp5 nlp);by_cases hlt2:i2 < uR.length
  ·have eu:uR[i2]?=some uR[i2]:=kL hlt2;have eu2:(uR.map V.ref)[i2]?=some (.ref uR[i2]):=by rw[vh,eu];rfl
   refine .inr ⟨⟨_,_,hlp6,eu2⟩,fun x H7 y=>?_⟩;obtain⟨rfl,y⟩:=y;have y:=y _ hlp6;rw[eu2] at y;cases y;refine⟨hp6,zF (by rw[kl,km,vq];lia),uR.length - (i2+1),by lia,rfl,hlt2,⟨_,rfl⟩,My.Same.upd s6 hp _,z7,fun e o h ne=>by rw[zg ne];exact k6 e o h ne,?_⟩;rw[qN eu,<-kX,kK (l₁:=us++uR.take i2)];rfl
  ·have e:i2=uR.length:=by lia
   subst e;rw[vC] at hp6;refine .inl ⟨⟨_,hlp6,by rw[kl];exact kg _⟩,rs.length - (i+1),by lia,rfl,hlt,⟨_,_,_,rfl⟩,s6,by rw[vC];exact hp6,us++uR,by rw[vC],?_⟩;rw[QL er];exact z2z (hU5.keepP hp5 k6) (UnIn.keepP hUR hp5 k6)
 ·have e:i=rs.length:=by lia
  subst e;refine .inl ⟨⟨_,_,q1,q2,.inl<|by rw[kl,hal];exact kg _⟩,hd us H2 s2 hp2 ?_⟩;unfold psT at hU;rw[vC] at hU;exact hU
def zaX(D:zn K mg "assembled" (top 94))(G:Glo mg)(GU:GloU mg)(hmU:mg "Units"=some (.ref C))(FG:FN P w K mg base 11 "guards_by_row" ["code"] (z7W K))(FA:FN P w K mg base 2 "args_of_sort" ["code","sort"] (z49 K))(FV:FN P w K mg base 1 "value_key" ["value"] spVK)(FC:FN P w K mg base 1 "numbered" ["keys"] (z40 P w K))(FM:FN P w K mg base 1 "numbered" ["keys"] (z3Z K))(FF:FN P w K mg base 9 "fewest_digits" ["code","consts","names"] (z7X P w K))(FZ:FN P w K mg base 1 "sized" ["digits"] (JS K))(FR:FN P w K mg base 2 "row_units" ["row","digits"] (z2p K))(FT:FN P w K mg base 8 "guard_table" ["code","guards","sizes"] (spGT K))(FL:FN P w K mg base 2 "line_table" ["code","sizes"] (spLT K))(FI:IN P w K mg base 7 C NU0 (z44 C)):FN P w K mg base 12 "assembled" ["code"] (z5W K C):=by
 refine FN.o D sc94 ?_;rintro _ _ A _ s H _ Q _ hr ⟨l,as,rs,fin,rfl,hl,hR,hc,hfin,hfl,q⟩;have hr1:=hr.mono (vW:1<=11);have hr2:=hr.mono (vW:2<=11);have hr8:=hr.mono (vW:8<=11);have hr9:=hr.mono (vW:9<=11);refine⟨_,z6 (zM 1 sc94.nd<|zk FG hr rfl<|pa1<|pv 0)
  (z6 (zM 2 sc94.nd (zk FC hr1 rfl (pa1 (ql (N:=["value"]) (nt:=1) (ix:=[]) (cl:=[]) rfl (zT.plain vW vW rfl vW rfl) (qy<|zk FA hr2 rfl<|pa2 (pv 0) zh)
    (fun _ _ _ _=>ZB (i:=0) (nd_1 _) rfl<|Or.inl rfl) (fun _ _ _ _=>qr) (fun _ _ _ _=>zk FV hr1 rfl<|pa1<|pv 0)))))
  (z6 (zM 3 sc94.nd<|zk FM hr1 rfl<|pa1<|zk FA hr2 rfl<|pa2 (pv 0) zh)
  (z6 (zM 4 sc94.nd<|zk FF hr9 rfl<|pa3 (pv 0) (pv 2)<|pv 3)
  (z6 (zM 5 sc94.nd<|zk FZ hr1 rfl<|pa1<|pv 4)
  (z6 (z1Q (i:=6) (N:=["row","row_digits","unit"]) (nt:=3) (ix:=[]) (cl:=[]) rfl sc94.nd rfl (Or.inl rfl) (zT.plain vW vW rfl vW rfl) (z7v rfl GU.zip<|pa2 (pv 0)<|pv 4)
    (fun _ _ _ _=>Z0 (K:=K) (n:=2) rfl rfl<|zu (zL 0 z8o)<|zu (zL 1 z8o) qt)
    (fun _ _ _ _=>z67 (K:=K) rfl<|zk FR hr2 rfl<|pa2 (pv 0)<|pv 1) (fun _ _ _ _=>zL 2 z8o) (fun _ _ _ _=>pv 2))
  (z8 (zl (zbu FI hr8 rfl hmU (zf (ja jd rfl G.tuple qi (pa1 (ql (N:=["is_truth","value"]) (nt:=2) (ix:=[]) (cl:=[]) rfl (zT.plain vW vW rfl vW rfl) (z68<|pv 2)
    (fun _ _ _ _=>Z0 (K:=K) (n:=2) rfl rfl<|zu (zL 0 zae)<|zu (zL 1 zae) qt) (fun _ _ _ _=>qr) (fun _ _ _ _=>pv 1))))
   (zf (ja (z2c rfl) rfl G.tuple qi<|pa1<|pv 3)<|pa3 (ja jd rfl G.tuple qi<|pa1<|pv 6) (zk FT hr8 rfl<|pa3 (pv 0) (pv 1)<|pv 5)<|zk FL hr2 rfl<|pa2 (pv 0)<|pv 5)))))))))),?_⟩
 symm
 have hhi:=hc.hi;have hal:as.length=rs.length:=Paired.length hR;have h1:=qE rs "value";have h4:=qE rs "name";refine⟨l,as,rs,fin,rfl,hl,hR,hc,hfin,hfl,fun gl gvs H1 s1 hgl hgl1 hG=>?_⟩;refine⟨l,as,rs,_,rfl,SqL.of<|s1 _ _ hl,hR.same s1,hc,fun al H2 s2 _ hal2=>⟨al,rfl,⟨_,SqL.of hal2⟩,fun p hp=>?_⟩⟩;obtain⟨g1,g2,g3⟩:=Ze (K:=K) (SqL.of hal2);refine Qa (n:=(qv rs "value").length) (fun σ=>∃x:Option V,σ=[x]) (fun i x _=>(qv rs "value")[i]?=some x) (fun i v H4=>∃t x,v=.ref t/\(qv rs "value")[i]?=some x/\H4 t=some (.tup<|ckey x)/\t≠p) (by lia) hp ⟨none,rfl⟩ g1 g2 g3 ?_ ?_ ?_
 ·rintro i v H4 H5 ⟨t,x,rfl,hx,ht,nt⟩ k;exact⟨t,x,rfl,hx,k _ _ ht nt,nt⟩
 ·rintro i x σ' H4 A hi s4 ⟨ps,hp4⟩ hY ⟨x1,rfl⟩ k;exact⟨x,rfl,zb0 hc x<|kH hY,fun t H5 s5 ht ht5=>k _ _ _ ⟨_,rfl⟩ s5 ⟨t,x,rfl,hY,ht5,fun z=>by rw[z,hp4] at ht;cases ht⟩⟩
 intro ys H3 s3 hp3 hyl hRy;obtain⟨kas,rfl,hK⟩:=z0T (R:=fun t x=>H3 t=some (.tup<|ckey x)) hyl fun i v e=>by obtain⟨t,x,e1,e2,e3,_⟩:=hRy i v e;exact⟨t,x,e1,e2,e3⟩
 have s13:=s1.trans (s2.trans s3);refine⟨p,kas,qv rs "value",rfl,SqL.of hp3,hK,zb0 hc,by lia,fun d o H4 s4 hd hd4 cd=>?_⟩;have s14:=s13.trans s4;refine⟨l,as,rs,_,rfl,SqL.of<|s14 _ _ hl,hR.same s14,hc,fun nl H5 s5 _ hnl5=>?_⟩;rw[z34 hc] at hnl5;have hnm:(nmS rs).length=(qv rs "name").length:=by unfold nmS;rw[kl]
 refine⟨nl,nmS rs,rfl,SqL.of hnl5,by lia,fun dn H6 s6 hdn hdn6=>?_⟩;have s46:=s5.trans s6;have s16:=s14.trans s46;have nd6:NumD P w H6 rs d dn:=⟨⟨o,s46 _ _ hd4,cd.keep fun b ys e=>s46 _ _ e⟩,hdn6⟩
 refine⟨l,d,dn,as,rs,rfl,SqL.of<|s16 _ _ hl,hR.same s16,hc,nd6,fun dl das S H7 s7 _ hdl7 hD7 L=>?_⟩;have hdd:(jV (numF rs) S).length=rs.length:=by rw[Jj,kl]
 refine⟨dl,das,_,rfl,SqL.of hdl7,hD7,by lia,fun sl H8 s8 _ hsl8=>?_⟩;have efix:(jV (numF rs) S).map List.length=S:=L.fix;rw[efix] at hsl8;have s78:=s7.trans s8;have s18:=s16.trans s78;refine⟨l,dl,rfl,⟨_,SqL.of<|s18 _ _ hl⟩,⟨_,SqL.of<|s8 _ _ hdl7⟩,fun up hup=>?_⟩;refine z3K (K:=K) (as:=as) (das:=das) (rs:=rs) (S:=S) (s18 _ _ hl) (hR.same s18) hhi (s8 _ _ hdl7) (Paired.mapP hD7 fun _ _ e=>s8 _ _ e) hup (fun t u v a b c H Q h q=>⟨t,_,rfl,h,rfl,_,_,rfl,_,_,rfl,rfl,q⟩) (fun a b c H R h=>h) (fun us H9 s9 hup9 hU9=>?_);have s19:=s18.trans s9;have nd9:=(nd6.same s78).same s9;obtain⟨⟨o9,hd9,cd9⟩,hdn9⟩:=nd9;refine⟨d,o9,csOf rs,rfl,hd9,cd9,fun bs hb p2 hp2=>?_⟩;refine Qa (n:=(csOf rs).length) (fun σ=>∃x y:Option V,σ=[x,y]) (fun i x H=>∃b v,x=.ref b/\(csOf rs)[i]?=some v/\H b=some (.tup<|ckey v)) (fun i v _=>(csOf rs)[i]?=some v) (by have:=jE (qv rs "value");unfold csOf;lia) hp2 ⟨none,none,rfl⟩ ?_ ?_ ?_ ?_ ?_ ?_
 ·exact fun i H2 hi s=>⟨s _ _ hd9,Paired.mapP hb fun _ _ e=>s _ _ e,hi⟩
 ·exact fun H2 s=>⟨s _ _ hd9,kg _⟩
 ·rintro i H2 x H3 hi s ⟨rfl,b,v,rfl,hv,hb⟩;exact⟨Same.refl _,b,v,rfl,hv,hb⟩
 ·exact fun i v H1 H2 h _=>h
 ·rintro i x σ' H4 A hi s4 _ ⟨b,v,rfl,hv,hb⟩ ⟨x1,x2,rfl⟩ k;exact⟨b,_,rfl,SqT.of hb,rfl,_,_,rfl,_,_,rfl,rfl,k _ _ _ ⟨_,_,rfl⟩ (Same.refl _) hv⟩
 intro ys Ha sa ha hyl hRy;have eys:ys=csOf rs:=Af fun i=>by
  by_cases hi:i < ys.length
  ·rw[hRy i ys[i]<|kL hi,kL hi]
  ·rw[vp (by lia),vp<|by lia]
 subst eys;refine⟨p2,_,rfl,.inl ⟨SqL.of ha,fun ct hct=>?_⟩⟩;have sb:=ze hct (.tup<|csOf rs);have hct1:(upd Ha ct<|.tup<|csOf rs) ct=some (.tup<|csOf rs):=z7;have s1b:=s19.trans (sa.trans sb);have s9b:=sa.trans sb;generalize upd Ha ct (.tup<|csOf rs)=Hb at *;have hnn:(nk<|nub<|nmS rs).length<=900:=by rw[z4F];have:=jE (nmS rs);lia
 refine⟨dn,_,rfl,.inl<|s9b _ _ hdn9,by lia,fun nt hnt=>?_⟩;have en:(nk<|nub<|nmS rs).map (fun p=>kV p.1)=nsOf rs:=by rw[z4C hc];exact z2G 0 _
 rw[en];have sc:=ze hnt (.tup<|nsOf rs);have hnt1:(upd Hb nt<|.tup<|nsOf rs) nt=some (.tup<|nsOf rs):=z7;generalize upd Hb nt (.tup<|nsOf rs)=Hc at *;have s9c:=s9b.trans sc;refine⟨up,_,rfl,.inl ⟨SqL.of<|s9c _ _ hup9,fun ut hut=>?_⟩⟩;have sd:=ze hut (.tup<|us.map V.ref);have hut1:(upd Hc ut<|.tup<|us.map V.ref) ut=some (.tup<|us.map V.ref):=z7;generalize upd Hc ut (.tup<|us.map V.ref)=Hd at *;have s9d:=s9c.trans sd;have s1d:=s19.trans s9d;have s8d:=s9.trans s9d;have sG:Same H1 Hd:=(s2.trans s3).trans (s4.trans<|s46.trans<|s78.trans s8d);refine⟨l,gl,sl,as,rs,fin,S,gvs,rfl,SqL.of<|s1d _ _ hl,hR.same s1d,hc,?_,?_,hfl,z1k hc hfin hfl,SqL.of<|s8d _ _ hsl8,L.len,L.le3,fun tt ts He se htt hte hTe=>?_⟩
 ·exact SqL.of (sG _ _ hgl1)
 ·exact Paired.mapP hG fun v o e=>z51 e sG
 have s8e:=s8d.trans se;have s1e:=s1d.trans se;refine⟨l,sl,as,rs,S,rfl,SqL.of<|s1e _ _ hl,hR.same s1e,hc,SqL.of<|s8e _ _ hsl8,L.len,L.le3,fun lt ls Hf sf hlt hlf hTf=>?_⟩;intro x dx hx hdx hne;have s1f:=s1e.trans sf;have kk:∀b o,Hf b=some o->(upd (upd Hf dx<|.own x) x<|.ins C dx []) b=some o:=fun b o e=>by rw[zg<|zd e hx,zg<|zd e hdx];exact e
 have sbf:=sc.trans (sd.trans<|se.trans sf);have hP:z2h Hf ct nt ut tt lt (csOf rs) (nsOf rs) us (psM rs S) ts (gtM rs fin S) ls (ltM rs S):=⟨sbf _ _ hct1,(sd.trans<|se.trans sf) _ _ hnt1,(se.trans sf) _ _ hut1,UnIn.same hU9<|s9d.trans<|se.trans sf,sf _ _ hte,jW.same hTe sf,hlf,hTf⟩
 refine⟨x,dx,ct,nt,ut,tt,lt,_,_,us,_,ts,_,ls,_,rfl,z7,hP.keep kk,z6k hc (z1k hc hfin hfl) hfl L,fun H' hx' hk=>⟨rfl,q x dx ct nt ut tt lt us ts ls S H' ?_ (s1f.free hx) hx' L (hP.keep fun b o e=>hk b o (kk b o e)<|zd e hx)⟩⟩;exact fun b o e=>hk b o (kk b o<|s1f _ _ e) (zd (s1f _ _ e) hx)
end
section
inductive Jz(vs:List V)(H:Hp)(Q:VK)(E:XK):Prop
|mk (n:Nat):vs=[.int (n:Int)]->n < 4096->(∀p H',Same H H'->H p=none->H' p=some (.lst<|zw<|dg n)->Q (.ref p) H')->Jz vs H Q E
def z5Z:zj ["_law_number_here","_law_found"] ["_law_number_here"] (zc<|top 116):=fsM
abbrev Ff(P:Program)(w:World)(K:PySem.W.Frag)(mg:Str->Option Ab)(base:Heap):=FN P w K mg base 1 "_law_digits" ["_law_number_here"] Jz
def z8T(D:zn K mg "_law_digits" (top 116)):Ff P w K mg base:=by
 refine FN.o D z5Z ?_;rintro _ _ _ _ _ H _ _ _ _ ⟨n,rfl,hn,q⟩;refine⟨_,z6 (zM 1 z5Z.nd<|zO<|pa1<|zE jJ (pvX 0) zb)
  (z6 (ZQ vo (zo za5 (pvX 0) zb<|zy _)
   (z6 (zM 0 z5Z.nd<|zE jM (pvX 0) zb)
   (z8<|zM 1 z5Z.nd<|zE Zv (zO<|pa1<|zE jJ (pvX 0) zb)<|pvX 1)))
  (z8<|zl<|pvX 1)),?_⟩
 symm
 have e16:∀k:Nat,(k:Int) % 16=((k % 16:Nat):Int):=fun k=>by lia
 have d16:∀k:Nat,(k:Int) / 16=((k / 16:Nat):Int):=fun k=>by lia
 refine⟨_,rfl,_,_,rfl,rfl,by show (0:Int) < 16;decide,vX,fun p hp=>?_⟩;refine JK (fun σ H2=>∃(left:Nat)(acc:List Nat)(fl:Aa),σ=[some<|.int (left:Int),some<|.ref fl]/\H fl=none/\H2 fl=some (.lst<|zw (left % 16::acc))/\left < 4096/\dg left++acc=dg n/\Same H H2)
  (fun σ H2=>match σ with
  |[some<|.int l,_]=>l.toNat
  |_=>0) ?_ ?_ ?_
 ·exact⟨n,[],p,rfl,hp,by show _=some (HO.lst [.int ((n % 16:Nat):Int)]);rw[<-e16];exact z7,hn,kW _,ze hp _⟩
 ·rintro σ H2 ⟨left,acc,fl,rfl,hfl,hp2,hl,h1,s2⟩;have hal:acc.length < 3:=by
   have e:=vI List.length h1;rw[km] at e;have:=(Zw left).1
   have:=(Zw n).2
   lia
  refine⟨_,rfl,_,_,rfl,rfl,_,rfl,?_⟩;refine ite2 (fun c=>?_) (fun c=>?_)
  ·have c':16<=left:=by
    have:decide ((16:Int)<=(left:Int))=true:=c
    have:=kD this
    lia
   refine⟨_,rfl,_,_,rfl,rfl,⟨by decide,by decide⟩,?_⟩;refine⟨_,rfl,_,_,rfl,rfl,by show (0:Int) < 16;decide,vX,fun p1 hp1=>⟨_,rfl,?_⟩⟩;have s3:=ze hp1 (.lst [.int ((left:Int) / 16 % 16)]);refine⟨p1,fl,_,_,rfl,rfl,z7,s3 _ _ hp2,by rw[qb,sizeLine_eq];simp only[kP,List.length_nil];lia,fun p3 hp3=>⟨⟨left / 16,left % 16::acc,p3,by rw[<-d16];rfl,(s2.trans s3).free hp3,?_,by lia,?_,(s2.trans s3).trans<|ze hp3 _⟩,?_⟩⟩
   ·rw[z7];show some (HO.lst (.int ((left:Int) / 16 % 16)::zw (left % 16::acc)))=some (HO.lst (.int ((left / 16 % 16:Nat):Int)::zw (left % 16::acc)));rw[d16,e16]
   ·rw[<-h1,z27 c' hl,kX];rfl
   ·show ((left:Int) / 16).toNat < ((left:Int)).toNat;lia
  ·have c':left < 16:=by
    have:¬decide ((16:Int)<=(left:Int))=true:=c
    rw[ye] at this;lia
   refine⟨_,rfl,q fl H2 s2 hfl ?_⟩;rw[hp2,<-h1,Nat.mod_eq_of_lt c'];unfold dg;rw[kz c'];rfl
 ·rintro σ H2 Q1 Q2 hq ⟨_,e0,i,j,e1,e2,b,e3,h⟩;exact⟨_,e0,i,j,e1,e2,b,e3,hq _ _ h⟩
inductive z3a(K:ku)(vs:List V)(H:Hp)(Q:VK)(E:XK):Prop
|mk (l:Aa) (S:List Nat):vs=[.ref l]->SqL K H l (zw S)->S.length<=900->(∀p H',Same H H'->H p=none->H' p=some (.lst<|zw<|(List.range (S.length+1)).map<|fstU S)->Q (.ref p) H')->z3a K vs H Q E
def z83:zj ["_law_sizes","_law_found","_law_size"] ["_law_sizes"] (zc<|top 119):=fsM
def z6O{S:List Nat}{i x:Nat}(h:S[i]?=some x):fstU S (i+1)=fstU S i+x:=by
 unfold fstU;rw[qN h,List.sum_append];simp
abbrev Fg(P:Program)(w:World)(K:PySem.W.Frag)(mg:Str->Option Ab)(base:Heap):=FN P w K mg base 1 "_law_begins" ["_law_sizes"] (z3a K)
def zaV(D:zn K mg "_law_begins" (top 119)):Fg P w K mg base:=by
 refine FN.o D z83 ?_;rintro _ _ _ _ _ H _ _ _ _ ⟨l,S,rfl,hl,hlen,q⟩;refine'⟨_,z6 _ _,_⟩
 rotate_left 2
 ·refine' jR (i:=1) _ _ _ _
  rotate_left
  ·exact z83.nd
  ·rfl
  ·exact Or.inl rfl
  ·refine' zO _
   rotate_left
   ·refine' zf _ _
    rotate_left 2
    ·exact zb
    ·exact qC
 ·exact z6 (qQ vo rfl (qy<|pv 0) (zL 2 z83.nd)
   (z8<|zi<|jS (pv 1)<|pa1<|zE qT (zG zH (pv 1)<|Qi jO zb)<|pv 2))
   (z8<|zl<|pv 1)
 refine⟨vX,fun p hp=>?_⟩;have s1:=ze hp (.lst [.int 0]);refine⟨l,rfl,⟨_,s1.seq hl⟩,ZZ (xs:=zw S) (fun i σ H2=>(∃x:Option V,σ=[some<|.ref l,some<|.ref p,x])/\Same H H2/\H2 p=some (.lst<|zw<|(List.range (i+1)).map<|fstU S))
  ⟨⟨none,rfl⟩,s1,z7⟩ (fun i σ H2 _ zz=>by obtain⟨_,s2,_⟩:=zz;exact s2.seq hl) ?_ ?_⟩
 ·rintro i x σ H2 hi ⟨⟨b,rfl⟩,s2,hp2⟩;unfold zw at hi;rw[vh] at hi;obtain⟨k,hk,rfl⟩:=Ad.mp hi;have hil:i < S.length:=(kh.mp hk).1;refine⟨.inl ⟨rfl,_,SqL.of hp2⟩,?_⟩;have el:zw ((List.range (i+1)).map<|fstU S)=zw ((List.range i).map<|fstU S)++[.int ((fstU S i:Nat):Int)]:=by
   unfold zw;rw[List.range_succ,kK,kK];rfl
  refine⟨_,rfl,p,_,_,_,rfl,rfl,SqL.of hp2,by rw[el];exact QQ _ _,_,_,rfl,rfl,p,_,_,rfl,rfl,hp2,zF (by rw[qb,kl,Am];lia),⟨_,rfl⟩,My.Same.upd s2 hp _,?_⟩;rw[z7];show some (HO.lst (_++[.int ((fstU S i:Int)+(k:Int))]))=_;congr 2
  unfold zw;rw[List.range_succ (n:=i+1),kK,kK];congr 1
  show [V.int ((fstU S i:Int)+(k:Int))]=[V.int ((fstU S (i+1):Nat):Int)]
  rw[z6O hk];rfl
 ·rintro σ H2 ⟨⟨b,rfl⟩,s2,hp2⟩;rw[qb] at hp2;exact q p H2 s2 hp hp2
end
section
variable {X:Cx}{k:Nat}{name:Str}{sp:Sp}{p pos:Pos}
def za1(F:FN X.prog X.w X.K X.mg X.base k name [] sp)(hr:Room k X.A)(hg:Gl X name)(hdb:autoParam ((name == ("__debug__":Str))=false) aR._auto_2):PE X (.Call (.Name name p) [] [] pos) (z1A sp [] E0 tNil):=by
 obtain⟨f,fd,a,b,c,d⟩:=F;exact z6j d hr hg a b c .nil z3i hdb
end
section
def z7T:Sp:=fun vs H Q _=>vs=[]/\∀p H',Same H H'->H p=none->H' p=some (.lst<|opsU.map V.str)->Q (.ref p) H'
def z84:zj ["_law_found"] [] (zc<|top 118):=fsM
def zaL(D:zn K mg "_law_ops" (top 118)):FN P w K mg base 1 "_law_ops" [] z7T:=by
 refine FN.of D z84 (fun _ _ _ _ _ _ us hl=>match us,hl with|[],_=>rfl) (fun vs H Q E h=>by obtain⟨rfl,_⟩:=h;rfl) fun _ _ _ _ _ H _ _ _ _ h=>?_
 obtain⟨rfl,q⟩:=h;refine'⟨_,z6 _ _,_⟩
 rotate_left 2
 ·refine' jR (i:=0) _ _ _ _
  rotate_left
  ·exact z84.nd
  ·rfl
  ·exact Or.inl rfl
  ·refine' zO _
   rotate_left
   iterate 13
    refine' zf _ _
    rotate_left 2
    ·exact zh
   exact qC
 ·refine' z6 _ _
  rotate_left 2
  ·refine' jR (i:=0) _ _ _ _
   rotate_left
   ·exact z84.nd
   ·rfl
   ·exact Or.inl rfl
   ·refine' zE _ _ _
    rotate_left 3
    ·exact Zv
    ·exact pv 0
    ·refine' zO _
     rotate_left
     iterate 11
      refine' zf _ _
      rotate_left 2
      ·exact zh
     exact qC
  ·refine' z8 _
   rotate_left
   ·refine' zl _
    rotate_left
    ·refine' zE _ _ _
     rotate_left 3
     ·exact Zv
     ·exact pv 0
     ·refine' zO _
      rotate_left
      iterate 2
       refine' zf _ _
       rotate_left 2
       ·exact zh
      exact qC
 refine⟨vX,fun p1 h1=>?_⟩;have s1:=ze h1 (.lst<|(opsU.take 13).map V.str);refine⟨vX,fun p2 h2=>?_⟩;have h2:(upd H p1<|.lst<|(opsU.take 13).map V.str) p2=none:=h2;have s2:=ze h2 (.lst<|((opsU.drop 13).take 11).map V.str);refine⟨p1,p2,_,_,rfl,rfl,s2 _ _ z7,z7,vX,fun p3 h3=>?_⟩;have s12:=s1.trans s2;have s3:=ze h3 (.lst<|(opsU.take 24).map V.str);have hp3:(upd (upd (upd H p1<|.lst<|(opsU.take 13).map V.str) p2<|.lst<|((opsU.drop 13).take 11).map V.str) p3<|.lst<|(opsU.take 24).map V.str) p3=some (.lst<|(opsU.take 24).map V.str):=z7;have s13:=s12.trans s3;refine⟨vX,fun p4 h4=>?_⟩;have s4:=ze h4 (.lst<|(opsU.drop 24).map V.str);refine⟨p3,p4,_,_,rfl,rfl,s4 _ _ hp3,z7,vX,fun p5 h5=>?_⟩;exact q p5 _ ((s13.trans s4).trans<|ze h5 _) ((s13.trans s4).free h5) z7
end
noncomputable def shV:V->Str
|.int i=>toString i
|.str z=>z
|.bl b=>if b then "True" else "False"
|_=>"None"
noncomputable def sgs(x:Str):List Nat:=x.cps.toList
def NumS(l:List Nat):Prop:=∃c cs,l=c::cs/\(c=45\/48<=c/\c<=57)
def z0Q(m:Nat):sgs (toString ((m:Nat):Int))=(Nat.toDigits 10 m).map Char.toNat:=PySem.W.KIN.signs_num m
def z0P(m:Nat):sgs (toString<|Int.negSucc m)=45::(Nat.toDigits 10 (m+1)).map Char.toNat:=by
 unfold sgs;rw[signs_ofString];show ("-"++Nat.repr (m+1)).toList.map Char.toNat=_;rw[String.toList_append,kK,Nat.toList_repr];rfl
def z25(m:Nat):∀c∈(Nat.toDigits 10 m).map Char.toNat,48<=c/\c<=57:=by
 intro c hc;obtain⟨ch,hch,e⟩:=yf.mp hc;have r:=digit_range (Nat.isDigit_of_mem_toDigits (by decide) (by decide) hch);rw[<-e];exact r
def z2V{m n:Nat}(h:(Nat.toDigits 10 m).map Char.toNat=(Nat.toDigits 10 n).map Char.toNat):m=n:=by
 rw[<-PySem.W.KIN.val_back m,h,PySem.W.KIN.val_back]
def zaY(m:Nat):(Nat.toDigits 10 m).map Char.toNat≠[]:=fun e=>by
 have:=PySem.W.KIN.val_back m
 have h:=Nat.length_toDigits_pos (b:=10) (n:=m);rw[List.map_eq_nil_iff.mp e] at h;cases h
def z0h(i:Int):NumS (sgs<|toString i):=by
 cases i with
|ofNat m=>
  have e:=z0Q m;cases h:(Nat.toDigits 10 m).map Char.toNat with
 |nil=>exact vd h (zaY m)
 |cons c cs=>
   refine⟨c,cs,e.trans h,.inr ?_⟩;exact z25 m c (by rw[h];exact kQ ..)
|negSucc m=>exact⟨45,_,z0P m,.inl rfl⟩
def z8y{i j:Int}(h:sgs (toString i)=sgs (toString j)):i=j:=by
 cases i with
|ofNat m=>
  cases j with
 |ofNat n=>exact vI Int.ofNat (z2V<|(z0Q m).symm.trans<|h.trans<|z0Q n)
 |negSucc n=>
   have e:(Nat.toDigits 10 m).map Char.toNat=45::_:=(z0Q m).symm.trans (h.trans<|z0P n);have:=z25 m 45 (by rw[e];exact kQ ..)
   lia
|negSucc m=>
  cases j with
 |ofNat n=>
   have e:(Nat.toDigits 10 n).map Char.toNat=45::_:=(z0Q n).symm.trans (h.symm.trans<|z0P m);have:=z25 n 45 (by rw[e];exact kQ ..)
   lia
 |negSucc n=>
   have e:=(z0P m).symm.trans (h.trans<|z0P n);injection e with _ e
   have:=z2V e
   exact vI Int.negSucc (by lia)
def z7f:∀c:Nat,c < 128->Unicode.isAlpha c=true->¬(c=45\/48<=c/\c<=57):=vW
def z7s{z:Str}(h:z0q (.str z)=true):¬NumS (sgs z):=by
 rintro⟨c,cs,e,hc⟩;unfold z0q jt at h;simp only[yd] at h;obtain⟨⟨_,h1⟩,h2⟩:=h;have hm:c∈z.cps:=by
  have:c∈z.cps.toList:=by unfold sgs at e;rw[e];exact kQ ..
  simpa using this
 unfold Txt.isascii at h1;unfold Txt.isalpha at h2;simp only[yd] at h2;have a1:=Array.all_eq_true'.mp h1 c hm;have a2:=Array.all_eq_true'.mp h2.2 c hm;exact z7f c (by simpa using a1) a2 hc
def JJ:¬NumS (sgs "True")/\¬NumS (sgs "False")/\¬NumS (sgs "None"):=by
 refine⟨?_,?_,?_⟩
 ·rintro⟨c,cs,e,hc⟩;rw[show sgs "True"=[84,114,117,101] by trivial] at e;injection e with e _
  lia
 ·rintro⟨c,cs,e,hc⟩;rw[show sgs "False"=[70,97,108,115,101] by trivial] at e;injection e with e _
  lia
 ·rintro⟨c,cs,e,hc⟩;rw[show sgs "None"=[78,111,110,101] by trivial] at e;injection e with e _
  lia
def ZA{x:V}(h:zU x=true):Scal x:=Q8 (s:="value") (by unfold qk;rw[kz rfl];exact h)
def z80{x y:V}(hx:zU x=true)(hy:zU y=true)(ox:okV x=true)(oy:okV y=true)(e:shV x=shV y):x=y:=by
 have kd:∀z:Str,zU (.str z)=true->z0q (.str z)=true:=fun z h=>by
  unfold zU QT at h;simpa [isB,zW] using h
 have ne:∀(z u:Str),u∈(["True","False","None"]:List Str)->okV (.str z)=true->z≠u:=fun z u hu ho e=>by
  subst e;have ho:(!decide (z∈(["True","False","None"]:List Str)))=true:=ho;rw[kj hu] at ho;cases ho
 have tf:("True":Str)≠"False"/\("True":Str)≠"None"/\("False":Str)≠"None":=vW;have bw:∀b:Bool,(if b then "True" else "False":Str)="True"\/(if b then "True" else "False":Str)="False":=fun b=>by cases b;exact .inr rfl;exact .inl rfl
 have nb:∀b:Bool,¬NumS (sgs (if b then "True" else "False":Str)):=fun b=>by cases b;exact JJ.2.1;exact JJ.1
 have sx:=ZA hx;have sy:=ZA hy;cases sx with
|int i=>
  have ni:=z0h i;cases sy with
 |int j=>exact vI V.int (z8y<|vI sgs e)
 |str z _=>exact vd (show NumS (sgs z) by have e:_=z:=e;rw[<-e];exact ni) (z7s<|kd z hy)
 |bl b=>exact vd (show NumS (sgs (if b then "True" else "False":Str)) by have e:_=(if b then "True" else "False":Str):=e;rw[<-e];exact ni) (nb b)
 |non=>exact vd (show NumS (sgs "None") by have e:_=("None":Str):=e;rw[<-e];exact ni) JJ.2.2
|str z _=>
  have nz:=z7s (kd z hx);cases sy with
 |int j=>exact vd (show NumS (sgs z) by have e:z=_:=e;rw[e];exact z0h j) nz
 |str u _=>exact vI V.str e
 |bl b=>
   have e:z=(if b then "True" else "False":Str):=e;exact vd e (by rcases bw b with h|h <;> (rw[h];exact ne z _ vW ox))
 |non=>exact vd e (ne z _ vW ox)
|bl b=>
  cases sy with
 |int j=>exact vd (show NumS (sgs (if b then "True" else "False":Str)) by have e:(if b then "True" else "False":Str)=_:=e;rw[e];exact z0h j) (nb b)
 |str u _=>
   have e:(if b then "True" else "False":Str)=u:=e;exact vd e.symm (by rcases bw b with h|h <;> (rw[h];exact ne u _ vW oy))
 |bl c=>
   cases b <;> cases c <;> first|rfl|exact vd e tf.1|exact vd e tf.1.symm
 |non=>cases b <;> first|exact vd e tf.2.1|exact vd e tf.2.2
|non=>
  cases sy with
 |int j=>exact vd (show NumS (sgs "None") by have e:("None":Str)=_:=e;rw[e];exact z0h j) JJ.2.2
 |str u _=>exact vd e.symm (ne u _ vW oy)
 |bl c=>cases c <;> first|exact vd e.symm tf.2.1|exact vd e.symm tf.2.2
 |non=>rfl
def z9F{x:V}(h:zU x=true):FmtR x (shV x):=by
 cases ZA h with
|int i=>
  refine .int i ?_;unfold zU QT z0q jt at h;simp only[isB,zW,Bool.or_eq_true,yd,ye] at h;have hi:i.natAbs<=1000000000:=by
   rcases h with ((h|h)|h)|h
   ·cases h
   ·cases h
   ·lia
   ·cases h
  by_cases h0:i.natAbs=0
  ·rw[h0];decide
  ·exact Nat.lt_trans ((Nat.log2_lt h0).mpr<|Nat.lt_of_le_of_lt hi (show 1000000000 < 2 ^ 30 by decide)) (by decide)
|str z hz=>exact .str z hz
|bl b=>exact .bl b
|non=>exact .non
section
inductive JQ(K:ku)(vs:List V)(H:Hp)(Q:VK)(E:XK):Prop
|mk (l:_) (as:_) (rs:_):vs=[.ref l]->SqL K H l (as.map V.ref)->zI H as rs->Code rs->(∀d H',H d=none->Same H H'->QA K H' l d rs->Q (.ref d) H')->JQ K vs H Q E
def z60:zj ["_law_code_here","_law_found","_law_at","_law_row"] ["_law_code_here"] (zc<|top 111):=fsM
def z8t{rs:List Row}{i:Nat}{m:Int}(h:zA rs m=some i):zA (rs.take i) m=none:=by
 cases e:zA (rs.take i) m with
|none=>rfl
|some j=>
  exfalso
  have hj:=(List.findIdx?_eq_some_iff_getElem.mp e).1;have hj:j < i:=by rw[vq] at hj;lia
  unfold zA at h e;rw[<-List.take_append_drop i rs,List.findIdx?_append,e] at h;cases h;exact vd hj (vD _)
def z6Q(D:zn K mg "_law_where" (top 111))(G:Glo mg):FN P w K mg base 1 "_law_where" ["_law_code_here"] (JQ K):=by
 refine FN.o D z60 ?_;rintro _ _ _ _ _ H _ _ _ hr ⟨l,as,rs,rfl,hS,hR,hc,q⟩;have hlen:=hc.hi;refine⟨_,z6 (zM 1 z60.nd QN)
  (z6 (qQ vo rfl (z0a rfl G.enumerate<|pa1<|pv 0) (Z7 rfl<|zu (zL 2 z60.nd)<|zu (zL 3 z60.nd) qt)
   (z8 (zV (zo qX (zG qg (pv 3) zb) zh<|zy _)
    (z8<|z4i (z0u hr) (pv 1) (zG qg (pv 3) zb) (pv 2) rfl) zC)))
  (z8<|zl<|pv 1)),?_⟩
 symm
 intro d hd;have hll:as.length=rs.length:=hR.len;have hml:(as.map V.ref).length=rs.length:=by rw[kl];exact hll
 refine⟨l,rfl,⟨_,(ze hd _).seq hS⟩,QO (K:=K) (a:=l) (xs:=as.map V.ref) (fun i σ H2=>∃kvs v2 v3,σ=[some<|.ref l,some<|.ref d,v2,v3]/\Same H H2/\H2 d=some (.dK kvs)/\kvs.length<=i/\jN kvs (rs.take i))
  ⟨[],none,none,rfl,ze hd _,z7,kg _,fun m=>by rw[List.take_zero];rfl⟩ (fun i σ H2 _ zz=>by obtain⟨_,_,_,_,s2,_⟩:=zz;exact s2.seq hS) ?_ ?_⟩
 ·rintro i x σ H2 p hi ⟨kvs,v2,v3,rfl,s2,hD,hk,hL⟩ hp;obtain⟨a,r,rfl,hr1,ha⟩:=(hR.same s2).get hi;have hil:i < rs.length:=(kh.mp hr1).1;have npd:d≠p:=zd hD hp;have nap:a≠p:=zd ha hp;have ha':(upd H2 p<|.tup [.int i,.ref a]) a=some (.tup<|tupV r):=by rw[zg nap];exact ha
  have s3:Same H (upd H2 p<|.tup [.int i,.ref a]):=fun b o e=>by rw[zg<|zd (s2 b o e) hp];exact s2 b o e
  refine⟨p,_,rfl,SqT.of z7,rfl,_,_,rfl,_,_,rfl,rfl,?_⟩;refine⟨a,_,_,_,rfl,rfl,SqT.of ha',zm (j:=0) rfl,rfl,_,rfl,?_⟩;have hD':(upd H2 p<|.tup [.int i,.ref a]) d=some (.dK kvs):=by rw[zg npd];exact hD
  refine ite2 (fun c=>?_) (fun c=>?_)
  ·have eop:r.op="label":=by
    have:=kD c
    injection this
   have hfit:=hc.fit i r hr1;unfold jF at hfit;rw[kz eop] at hfit;have:∃m:Int,r.arg=.int m/\zA rs m=some i:=by
    cases e:r.arg with
   |int m=>rw[e] at hfit;exact⟨m,rfl,kD hfit⟩
   |_=>rw[e] at hfit;cases hfit
   obtain⟨m,em,hm⟩:=this;have hn:=z8t hm;refine⟨a,_,_,_,rfl,rfl,SqT.of ha',zm (j:=1) rfl,d,_,rfl,.inl ⟨kvs,Sum.inl m,hD',em,zF (by lia),rfl⟩,?_⟩;have eP:labP m r=true:=by unfold labP;rw[eop,em];simp
   refine⟨putK kvs (Sum.inl m)<|.int i,_,_,rfl,fun b o e=>?_,z7,?_,fun m'=>?_⟩
   ·rw[zg<|zd e hd];exact s3 b o e
   ·have:=qm kvs (Sum.inl m:Key) (V.int i)
    lia
   ·rw[Zl,jK hr1 m'];by_cases e:m'=m
    ·subst e;rw[kz rfl,eP,kz rfl,hn];rfl
    ·have:labP m' r=false:=by
      unfold labP;rw[em];have:¬(V.int m=V.int m'):=fun z=>e (by injection z with z;exact z.symm)
      simp[this]
     rw[this,ky (fun z=>e<|by injection z),hL m'];simp
  ·refine⟨kvs,_,_,rfl,s3,hD',by lia,fun m'=>?_⟩;rw[jK hr1 m',hL m'];have:labP m' r=false:=by
    unfold labP;have:¬(r.op="label"):=fun z=>c (by rw[z];rfl)
    simp[this]
   rw[this];simp
 ·rintro σ H2 ⟨kvs,v2,v3,rfl,s2,hD,hk,hL⟩;rw[hml,vC] at hL;exact (q d H2 hd s2 ⟨⟨as,s2.seq hS,hR.same s2⟩,hc,kvs,hD,hL⟩)
end
noncomputable def opNm:List Str:=["load","quick","store","clear"]
noncomputable def opDp:List Str:=["copy","swap"]
noncomputable def opJp:List Str:=["jump","iftrue","iffalse","ortrue","orfalse"]
def zac:∀op∈Qb,(op="push"->zx op=some ("value":Str)):=vW
def zab:∀op∈Qb,(inT op opNm=true->zx op=some ("name":Str)):=vW
def zaa:∀op∈Qb,(inT op opDp=true->zx op=some ("copied":Str)\/zx op=some ("swapped":Str)):=vW
def za9:∀op∈Qb,(inT op opJp=true->zx op=some ("mark":Str)):=vW
def za8:∀op∈Qb,(op≠"push"->inT op opNm=false->inT op opDp=false->inT op opJp=false->inT op opsU=true->zx op=some ("none":Str)):=vW
def zaz{l:List V}{x:V}(hinj:∀y∈l,shV y=shV x->y=x)(hx:x∈l):(l.map shV)[l.idxOf x]?=some (shV x)/\∀m,m < l.idxOf x->(l.map shV)[m]?≠some (shV x):=by
 refine⟨by rw[vh,z1d hx];rfl,fun m hm e=>?_⟩;rw[vh] at e;obtain⟨y,hy,e⟩:=Ad.mp e;have:=hinj y (kH hy) e
 subst this;have h:=kh.mp hy;have:=List.not_of_lt_findIdx (p:=(· == y)) (xs:=l) (i:=m) hm
 rw[h.2] at this;simp at this
section
inductive spSh(vs:List V)(H:Hp)(Q:VK)(E:XK):Prop
|mk (x:_):vs=[x]->zU x=true->Q (.str<|shV x) H->spSh vs H Q E
def zbm:zj ["_law_thing"] ["_law_thing"] (zc<|top 110):=fsM
abbrev Fh(P:Program)(w:World)(K:PySem.W.Frag)(mg:Str->Option Ab)(base:Heap):=FN P w K mg base 1 "_law_shown" ["_law_thing"] spSh
def zbP(D:zn K mg "_law_shown" (top 110)):Fh P w K mg base:=by
 refine FN.o D zbm ?_;rintro _ _ _ _ _ _ _ _ _ _ ⟨x,rfl,hx,q⟩;exact⟨_,z8<|zl<|z6b<|za2<|pv 0,_,z9F hx,q⟩
noncomputable def shC(rs:List Row):List Str:=(csOf rs).map shV
def z1z(rs:List Row):Prop:=∀r∈rs,r.op="push"->okV r.arg=true
def zb1{rs:List Row}(hc:Code rs)(hp:z1z rs):∀x∈csOf rs,okV x=true:=by
 intro x hx;obtain⟨r,hr,rfl⟩:=yf.mp (Z3.mp hx);obtain⟨h1,h2⟩:=Al.mp hr;refine hp r h1 ?_;obtain⟨s,hs⟩:=jY hc h1;have t:∀op∈Qb,zx op=some ("value":Str)->op="push":=vW;exact t r.op (ZU hs) (kD h2)
inductive Jy(K:ku)(vs:List V)(H:Hp)(Q:VK)(E:XK):Prop
|mk (l wd bl cl nl:Aa) (rs:List Row) (i:Nat) (r:Row) (S:List Nat):vs=[.ref l,.int (i:Int),.ref bl,.ref wd,.ref cl,.ref nl]->QA K H l wd rs->rs[i]?=some r->inT r.op opsU=true->z1z rs->S.length=rs.length->SqL K H bl (zw<|(List.range (S.length+1)).map<|fstU S)->H cl=some (.lst<|(shC rs).map V.str)->H nl=some (.lst<|nsOf rs)->(∀H',Same H H'->Q (.int ((numR (csOf rs) (nsOf rs) (jm rs S) r:Nat):Int)) H')->Jy K vs H Q E
noncomputable abbrev N117:List Str:=["_law_code_here","_law_at","_law_begins_here","_law_where_here","_law_consts","_law_names","_law_op","_law_arg","_law_line"]
def z5Y:zj N117 ["_law_code_here","_law_at","_law_begins_here","_law_where_here","_law_consts","_law_names"] (zc<|top 117):=fsM
abbrev Fi(P:Program)(w:World)(K:PySem.W.Frag)(mg:Str->Option Ab)(base:Heap):=FN P w K mg base 2 "_law_number" ["_law_code_here","_law_at","_law_begins_here","_law_where_here","_law_consts","_law_names"] (Jy K)
def z8R(D:zn K mg "_law_number" (top 117))(FS:Fh P w K mg base):Fi P w K mg base:=by
 refine FN.of D z5Y (fun _ _ _ _ _ _=>zU6 fun _ _ _ _ _ _=>rfl) (fun vs H Q E h=>by cases h;subst_vars;rfl) fun _ _ _ _ s H _ _ _ hr h=>?_
 obtain⟨l,wd,bl,cl,nl,rs,i,⟨op,arg,ln⟩,S,rfl,hC,hi,hop,hpk,hSl,hbl,hcl,hnl,q⟩:=h;have hu:=z0u hr;refine⟨_,z6 (Za (zG zH (pv 0)<|pv 1)<|Z7 rfl<|zu (zL 6 z5Y.nd)<|zu (zL 7 z5Y.nd)<|zu (zL 8 z5Y.nd) qt)
  (z6 (zV (zo qX (pv 6) zh<|zy _) (z8<|zl<|z1W PySem.F.plainAttrs_list PySem.F.slot_list_index PySem.F.type_list_index J9 (pv 4)<|pa1<|zk FS hr rfl<|pa1<|pv 7) zC)
  (z6 (zV (zo jb (pv 6) (zY<|zf zh<|pa3 zh zh zh) rfl) (z8<|zl<|z1W PySem.F.plainAttrs_list PySem.F.slot_list_index PySem.F.type_list_index J9 (pv 5)<|pa1<|pv 7) zC)
  (z6 (zV (zo jb (pv 6) (zY<|pa2 zh zh) rfl) (z8<|zl<|pv 7) zC)
  (z8<|zl<|j9 (zo jb (pv 6) (zY<|zf zh<|zf zh<|pa3 zh zh zh) rfl) (zG zH (pv 2)<|ZC hu (pv 3) (pv 7) fun _ _=>rfl) zb)))),?_⟩
 symm
 obtain⟨⟨as,hl,hR⟩,hc,kvs,hwd,hL⟩:=hC;obtain⟨a,ha,hat⟩:=hR.get' hi;have hm:(⟨op,arg,ln⟩:Row)∈rs:=kH hi;obtain⟨so,hso⟩:=jY hc hm;have hso:zx op=some so:=hso;have t1:=zac op (ZU hso);have t2:=zab op (ZU hso);have t3:=zaa op (ZU hso);have t4:=za9 op (ZU hso);have t5:=za8 op (ZU hso);have hfit:=jB hc hm hso;have hmem:=Jp hm (s:=so) hso;refine⟨l,_,_,_,rfl,rfl,hl,zm ha,a,_,rfl,SqT.of hat,rfl,_,_,rfl,_,_,rfl,_,_,rfl,rfl,?_⟩;refine⟨rfl,_,rfl,ite2 (fun c=>?_) fun c=>?_⟩
 ·have c':op="push":=by have:=kD c;injection this
  have hv:=t1 c';rw[hso] at hv;cases hv;have e0:qk "value" arg=zU arg:=by unfold qk;rw[kz rfl]
  have hpa:zU arg=true:=e0▸hfit;obtain⟨k1,k2⟩:=zaz (l:=csOf rs) (x:=arg) (fun y hy e=>z80 (z96 hc y hy).2 hpa (zb1 hc hpk y hy) (hpk _ hm c') e) (Z3.mpr hmem);refine⟨.inl ⟨rfl,_,SqL.of hcl⟩,arg,rfl,hpa,cl,shC rs,_,_,rfl,rfl,hcl,k1,k2,?_,?_⟩
  ·have:=jE (qv rs "value");have:=qE rs "value";have:=hc.hi;unfold shC csOf;rw[kl];lia
  ·have:=q H (Same.refl _)
   unfold numR at this;rw[kz hso] at this;exact this
 have c1:op≠"push":=fun z=>c (kj<|vI V.str z)
 refine⟨vX,fun p1 hp1=>⟨p1,_,rfl,.inr<|SqT.of z7,rfl,rfl,inT op opNm,rfl,?_⟩⟩;have s1:=ze hp1 (.tup<|opNm.map V.str);have hcl1:=s1 _ _ hcl;have hnl1:=s1 _ _ hnl;have hwd1:=s1 _ _ hwd;have hbl1:=s1.seq hbl;have es:upd H p1 (.tup<|opNm.map V.str)=upd H p1 (.tup [.str "load",.str "quick",.str "store",.str "clear"]):=rfl;rw[es] at s1 hcl1 hnl1 hwd1 hbl1;generalize upd H p1 (.tup [.str "load",.str "quick",.str "store",.str "clear"])=H1 at *;refine ite2 (fun c2=>?_) (fun c2=>?_)
 ·have hv:=t2 c2;rw[hso] at hv;cases hv;have e1:arg=.str (strV arg):=J8 hfit;have en:=z4C hc;have hx:arg∈nsOf rs:=Z3.mpr hmem;rw[en] at hnl1;refine⟨.inl ⟨rfl,_,SqL.of hnl1⟩,nl,nub<|nmS rs,strV arg,(nub<|nmS rs).idxOf<|strV arg,rfl,by show [arg]=_;rw[<-e1],hnl1,?_,?_,?_,?_⟩
  ·refine z1d ?_;rw[en] at hx;obtain⟨z,hz,ez⟩:=yf.mp hx;rw[<-ez];exact hz
  ·intro m hm e;have h:=zaA (zad<|nmS rs) e;lia
  ·have:=jE (nmS rs);have e:(nmS rs).length=(qv rs "name").length:=by unfold nmS;rw[kl]
   have:=qE rs "name";have:=hc.hi;lia
  ·have:=q H1 s1
   unfold numR at this;rw[ky (by show ¬zx op=_;rw[hso];decide+kernel),kz hso] at this;have e2:(nsOf rs).idxOf arg=(nub<|nmS rs).idxOf (strV arg):=by
    rw[en];conv=>lhs;rw[e1]
    exact z4X _ _
   rw[e2] at this;exact this
 have c2':inT op opNm=false:=by cases h:inT op opNm;rfl;exact vd h c2
 refine⟨vX,fun p2 hp2=>⟨p2,_,rfl,.inr<|SqT.of z7,rfl,rfl,inT op opDp,rfl,?_⟩⟩;have s2:=ze hp2 (.tup [.str "copy",.str "swap"]);have s12:=s1.trans s2;have hwd2:=s2 _ _ hwd1;have hbl2:=s2.seq hbl1;generalize upd H1 p2 (.tup [.str "copy",.str "swap"])=H2 at *;refine ite2 (fun c3=>?_) (fun c3=>?_)
 ·have:=q H2 s12
  have h1:so≠"value"/\so≠"name"/\so≠"mark":=by
   rcases t3 c3 with h|h <;> (rw[hso] at h;cases h;decide+kernel)
  have hd:=Qn hfit h1.1 h1.2.1 h1.2.2;obtain⟨k,ek⟩:∃k,arg=.int k:=by
   rcases t3 c3 with h|h
   ·rw[hso] at h;cases h;unfold qk at hfit;rw[ky vW,ky vW,kz rfl] at hfit;unfold Qo zW at hfit;cases arg <;> first|exact⟨_,rfl⟩|(simp at hfit)
   ·rw[hso] at h;cases h;unfold qk at hfit;rw[ky vW,ky vW,ky vW,kz rfl] at hfit;unfold Zm zW at hfit;cases arg <;> first|exact⟨_,rfl⟩|(simp at hfit)
  subst ek;unfold numR at this;rw[ky (by show ¬zx op=_;rw[hso];exact fun z=>h1.1<|kC z),ky (by show ¬zx op=_;rw[hso];exact fun z=>h1.2.1<|kC z),ky<|by show ¬zx op=_;rw[hso];exact fun z=>h1.2.2<|kC z] at this;have e:(((argI<|.int k).toNat:Nat):Int)=k:=Ap hd.1;rw[e] at this;exact this
 have c3':inT op opDp=false:=by cases h:inT op opDp;rfl;exact vd h c3
 refine⟨vX,fun p3 hp3=>⟨p3,_,rfl,.inr<|SqT.of z7,rfl,rfl,inT op opJp,rfl,?_⟩⟩;have s3:=ze hp3 (.tup [.str "jump",.str "iftrue",.str "iffalse",.str "ortrue",.str "orfalse"]);have s13:=s12.trans s3;have hwd3:=s3 _ _ hwd2;have hbl3:=s3.seq hbl2;generalize upd H2 p3 (.tup [.str "jump",.str "iftrue",.str "iffalse",.str "ortrue",.str "orfalse"])=H3 at *;refine ite2 (fun c4=>?_) (fun c4=>?_)
 ·have hv:=t4 c4;rw[hso] at hv;cases hv;obtain⟨m,j,em,hj⟩:=z0m hc hm hso;have em:arg=.int m:=em;subst em;have hjl:=z4P hj;have hdg:DGet H3 wd (.int m) (some<|.int ((j:Nat):Int)):=by
   have:=DGet.k (k:=(Sum.inl m:Key)) hwd3
   rw[hL m,hj] at this;exact this
  refine⟨wd,_,rfl,hdg,bl,_,_,_,rfl,rfl,hbl3,zm (j:=j) (v:=.int ((fstU S j:Nat):Int)) ?_,?_⟩
  ·unfold zw;rw[Ak,vh,An<|by lia];rfl
  ·have:=q H3 s13
   unfold numR at this;rw[ky (by show ¬zx op=_;rw[hso];decide+kernel),ky (by show ¬zx op=_;rw[hso];decide+kernel),kz hso] at this;have e:jm rs S (argI<|.int m)=fstU S j:=by unfold jm;show fstU S ((zA rs m).getD 0)=_;rw[hj];rfl
   rw[e] at this;exact this
 ·have c4':inT op opJp=false:=by cases h:inT op opJp;rfl;exact vd h c4
  have hv:=t5 c1 c2' c3' c4' hop;rw[hso] at hv;cases hv;have:=q H3 s13
  unfold numR at this;rw[ky (by show ¬zx op=_;rw[hso];decide+kernel),ky (by show ¬zx op=_;rw[hso];decide+kernel),ky<|by show ¬zx op=_;rw[hso];decide+kernel] at this;have e:arg=.non:=by
   unfold qk z3j at hfit;rw[ky vW,ky vW,ky vW,ky vW,ky vW] at hfit;exact kD hfit
  subst e;exact this
end
def Scr(K:ku)(H:Hp)(a:Aa)(xs:List V):Prop:=
 (∃o,H a=some (.frz o<|.lst xs))\/∃(o:Obj)(its:Array Ab)(n:Nat),K.lookup a=some o/\o.cls=.type "list"/\o.dict=none/\o.data=.seq its n/\its.size<=sizeLine/\Vals xs its.toList
def Scr.sq{K:ku}{H:Hp}{a:Aa}{xs:List V}(h:Scr K H a xs):SqL K H a xs:=by
 rcases h with ⟨o,h⟩|h
 ·exact .inl (.inr ⟨o,h⟩)
 ·exact .inr h
def zc4(H H':Hp)(t r m:Aa):Prop:=∀b o,H b=some o->b≠t->b≠r->b≠m->H' b=some o
def Scr.keep{K:ku}{H H':Hp}{a:Aa}{xs:List V}(h:Scr K H a xs)(k:∀o u,H a=some (.frz o u)->H' a=some (.frz o u)):Scr K H' a xs:=by
 rcases h with ⟨o,h⟩|h
 ·exact .inl ⟨o,k _ _ h⟩
 ·exact .inr h
def Scr.keep1{K:ku}{H H':Hp}{a t:Aa}{xs ys:List V}(h:Scr K H a xs)(k:Zk H H' t)(ht:H t=some (.lst ys)):Scr K H' a xs:=h.keep fun o u e=>k _ _ e (jI e ht nofun)
noncomputable def qM(c:Nat)(cells:List Int):List V:=.int (c:Int)::cells.map V.int
section
inductive z0N(K:ku)(vs:List V)(H:Hp)(Q:VK)(E:XK):Prop
|mk (a t:Aa) (ns:List Int) (c:Nat) (cells:List Int) (many:Int):vs=[.ref a,.ref t,.int many]->Scr K H a (ns.map V.int)->ns.length<=1000->cells.length=ns.length->H t=some (.lst<|qM c cells)->c<=100000->1<=many->many<=1000->(∀(i:Int)(cells':List Int) H',0<=i->i < many->cells'.length=ns.length->H' t=some (.lst<|qM (c+1) cells')->Zk H H' t->Q (.int i) H')->z0N K vs H Q E
def sc97:zj ["_law_script","_law_town_here","_law_many","_law_at","_law_left","_law_number_here"] ["_law_script","_law_town_here","_law_many"] (zc<|top 97):=fsM
def z6M{cells:List Int}{i:Int}(h0:0<=i)(h1:i < (cells.length:Int))(c:Nat):∃z,atI (qM c cells) (1+i)=some (.int z):=by
 obtain⟨j,rfl⟩:=kZ h0;have hj:j < cells.length:=by lia
 have e:(1:Int)+(j:Int)=((j+1:Nat):Int):=by lia
 refine⟨cells[j],?_⟩;rw[e];refine zm ?_;unfold qM;rw[List.getElem?_cons_succ,vh,kL hj];rfl
def z3C{ns:List Int}{i:Int}(h0:0<=i)(h1:i < (ns.length:Int)):∃z,atI (ns.map V.int) i=some (.int z):=by
 obtain⟨j,rfl⟩:=kZ h0;have hj:j < ns.length:=by lia
 refine⟨ns[j],zm ?_⟩;rw[vh,kL hj];rfl
def z5X{c:Nat}{cells:List Int}{i:Int}(h0:0<=i)(h1:i < (cells.length:Int))(z:Int):∃j cells',ixN (qM c cells).length (1+i)=some j/\(qM c cells).set j (.int z)=qM c cells'/\cells'.length=cells.length:=by
 obtain⟨j,rfl⟩:=kZ h0;refine⟨j+1,cells.set j z,?_,?_,by simp⟩
 ·unfold ixN qM;rw[kz (by lia),kz<|by simp;lia];congr 1
  lia
 ·unfold qM;rw[List.set_cons_succ,List.map_set]
def ix0{c:Nat}{cells:List Int}:ixN (qM c cells).length 0=some 0:=by
 unfold ixN qM;rw[kz (by decide),kz<|by simp <;> lia];rfl
def z90(D:zn K mg "_law_draw" (top 97))(G:Glo mg):FN P w K mg base 1 "_law_draw" Ve (z0N K):=by
 refine FN.o D sc97 ?_;rintro _ _ A _ _ H _ Q _ hr ⟨a,t,ns,c,cells,many,rfl,hS,hns,hcl,hT,hc,hm1,hm2,q⟩;have hu:A.units+3 < cLine:=by have:=hr.units0;exact this
 refine⟨_,z6 (Za (zE qT (zG zH (pv 1) zb) zb)<|z0W (pv 1) zb ZO)
  (z6 (zV (zo (za6<|hr.units0) (pv 0) (zO qC)<|zy _)
   (z8<|zl<|zE jJ (zE jM (zE z0X (zE z0X (zG zH (pv 1) zb)<|zG zH (pv 1) zb) zb) zb)<|pv 2) zC)
  (z6 (zM 3 sc97.nd<|zE jJ (zG zH (pv 1) zb)<|zq zr rfl G.len zK<|pa1<|pv 0)
  (z6 (zM 4 sc97.nd<|zG zH (pv 1)<|zE qT zb<|pv 3)
  (z6 (zV (PW.pt<|z2w (zo za5 (zG zH (pv 0)<|pv 3) (zE z4x zb zb)<|zy _)<|z06<|zo J6 (pv 4) zb<|zy _)
   (z6 (Za (zE jM (pv 4)<|pv 2)<|z0W (pv 1) (zE qT zb<|pv 3) ZO)<|z8<|zl<|zE jJ (pv 4)<|pv 2) zC)
  (z6 (zM 5 sc97.nd<|zE jJ (zE qT (zG zH (pv 0)<|pv 3)<|zE z0X zb<|zG zH (pv 1) zb) zb)
  (z6 (zM 5 sc97.nd<|zE jJ (zE z4x (pv 5) zb) zb)
  (z8<|zl<|zE jJ (zE jM (zE jJ (zE qT (zE z0X (zE jM (pv 5) zb) zb)<|pv 5) zb) zb)<|pv 2))))))),?_⟩
 symm
 have hmod:∀x:Int,0<=x % many/\x % many < many:=fun x=>⟨Int.emod_nonneg _ (by lia),Int.emod_lt_of_pos _<|by lia⟩
 have cdm:CDiv 0 many:=⟨by lia,by lia⟩
 refine⟨t,_,_,_,rfl,rfl,SqL.of hT,zm (j:=0) rfl,_,_,rfl,rfl,?_⟩;refine⟨t,_,_,0,rfl,rfl,hT,ix0,?_⟩;have e1:(qM c cells).set 0 (V.int ((c:Int)+1))=qM (c+1) cells:=by
  unfold qM;rw[List.set_cons_zero];rfl
 rw[e1];generalize hH1:upd H t (.lst<|qM (c+1) cells)=H1;have hT1:H1 t=some (.lst<|qM (c+1) cells):=by rw[<-hH1];exact z7
 have k1:Zk H H1 t:=fun b o e hb=>by rw[<-hH1,zg hb];exact e
 have hS1:=hS.keep1 k1 hT;refine⟨vX,fun p hp=>?_⟩;have s2:Same H1 (upd H1 p<|.lst []):=ze hp _;have hT2:=s2 _ _ hT1;have hS2:Scr K (upd H1 p<|.lst []) a (ns.map V.int):=hS1.keep fun o u e=>s2 _ _ e
 have k2:Zk H (upd H1 p<|.lst []) t:=fun b o e hb=>s2 _ _ (k1 b o e hb)
 generalize hH2:upd H1 p (.lst [])=H2 at *;have hp2:H2 p=some (.lst []):=by rw[<-hH2];exact z7
 refine⟨a,p,_,rfl,rfl,hS2.sq,SqL.of hp2,_,rfl,?_⟩;refine ite2 (fun ce=>?_) (fun ce=>?_)
 ·refine⟨t,_,_,_,rfl,rfl,SqL.of hT2,zm (j:=0) rfl,t,_,_,_,rfl,rfl,SqL.of hT2,zm (j:=0) rfl,_,_,rfl,rfl,.inl ⟨by lia,by lia⟩,_,_,rfl,rfl,.inr ⟨by decide,by decide⟩,_,_,rfl,rfl,⟨by decide,by decide⟩,_,_,rfl,rfl,by lia,?_⟩;exact q _ cells H2 (hmod _).1 (hmod _).2 hcl hT2 k2
 ·have hne:ns≠[]:=fun z=>ce (by rw[z];rfl)
  have hpos:0 < ns.length:=List.length_pos_iff.mpr hne;refine⟨t,_,_,_,rfl,rfl,SqL.of hT2,zm (j:=0) rfl,a,_,rfl,.inl hS2.sq,_,_,rfl,rfl,by rw[kl];lia,?_⟩;rw[kl];have a0:0<=((c+1:Nat):Int) % (ns.length:Int):=Int.emod_nonneg _ (by lia);have a1:((c+1:Nat):Int) % (ns.length:Int) < (ns.length:Int):=Int.emod_lt_of_pos _ (by lia);obtain⟨z,hz⟩:=z6M (cells:=cells) a0 (by rw[hcl];exact a1) (c+1);obtain⟨y,hy⟩:=z3C (ns:=ns) a0 a1;refine⟨_,_,rfl,rfl,t,_,_,_,rfl,rfl,SqL.of hT2,hz,?_⟩;refine⟨a,_,_,_,rfl,rfl,hS2.sq,hy,_,_,rfl,rfl,⟨by decide,by decide,by decide⟩,_,_,rfl,rfl,_,rfl,?_⟩;have rest:tSeq (tAsg (tOp (rI (fun _ j=>0 < j) fun i j=>.int (i % j)) (tOp (rI0 fun i j=>.int (i+j)) (tOp (rIxL K) (tVar 0)<|tVar 3)<|tOp (rI CMul fun i j=>.int (i * j)) (tC<|.int 104729)<|tOp (rIxL K) (tVar 1)<|tC<|.int 0)<|tC<|.int 4294967291)<|Qm 5)
    (tSeq (tAsg (tOp (rI (fun _ j=>0 < j) fun i j=>.int (i % j)) (tOp (rI CPow fun i j=>.int (i ^ j.toNat)) (tVar 5)<|tC<|.int 5)<|tC<|.int 4294967279)<|Qm 5)
    (tRet<|tOp (rI (fun _ j=>0 < j) fun i j=>.int (i % j)) (tOp (rI CDiv fun i j=>.int (i / j)) (tOp (rI (fun _ j=>0 < j) fun i j=>.int (i % j)) (tOp (rI0 fun i j=>.int (i+j)) (tOp (rI CMul fun i j=>.int (i * j)) (tOp (rI CDiv fun i j=>.int (i / j)) (tVar 5)<|tC<|.int 64)<|tC<|.int 69621)<|tVar 5)<|tC<|.int 4294967231)<|tC<|.int 8)<|tVar 2))
    {nx:=fun _ H'=>Q .non H',rt:=Q} [some<|.ref a,some<|.ref t,some<|.int many,some<|.int (((c+1:Nat):Int) % (ns.length:Int)),some<|.int z,none] H2:=by
   refine⟨a,_,_,_,rfl,rfl,hS2.sq,hy,t,_,_,_,rfl,rfl,SqL.of hT2,zm (j:=0) rfl,_,_,rfl,rfl,.inl ⟨by decide,by decide⟩,_,_,rfl,rfl,_,_,rfl,rfl,(by show (0:Int) < 4294967291;decide),?_⟩;have b0:0<=(y+104729 * ((c+1:Nat):Int)) % 4294967291:=Int.emod_nonneg _ (by decide);have b1:(y+104729 * ((c+1:Nat):Int)) % 4294967291 < 4294967291:=Int.emod_lt_of_pos _ (by decide);refine⟨_,_,rfl,rfl,⟨by decide,by decide,?_⟩,_,_,rfl,rfl,(by show (0:Int) < 4294967279;decide),?_⟩
   ·show ((y+104729 * ((c+1:Nat):Int)) % 4294967291).natAbs < 2 ^ 64;lia
   refine⟨_,_,rfl,rfl,⟨by decide,by decide⟩,_,_,rfl,rfl,.inr ⟨by decide,by decide⟩,_,_,rfl,rfl,_,_,rfl,rfl,(by show (0:Int) < 4294967231;decide),_,_,rfl,rfl,⟨by decide,by decide⟩,_,_,rfl,rfl,by lia,?_⟩;exact q _ cells H2 (hmod _).1 (hmod _).2 hcl hT2 k2
  refine ite2 (fun c1=>?_) (fun c1=>?_)
  ·refine⟨_,_,rfl,rfl,_,rfl,?_⟩;refine ite2 (fun c2=>?_) (fun c2=>rest);obtain⟨j,cells',hj,hset,hl'⟩:=z5X (c:=c+1) (cells:=cells) a0 (by rw[hcl];exact a1) (z / many);refine⟨_,_,rfl,rfl,⟨by lia,by lia⟩,?_⟩;refine⟨_,_,rfl,rfl,t,_,_,j,rfl,rfl,hT2,hj,?_⟩;rw[hset];refine⟨_,_,rfl,rfl,by lia,?_⟩;exact q _ cells' _ (hmod _).1 (hmod _).2 (hl'.trans hcl) z7 fun b o e hb=>by rw[zg hb];exact k2 b o e hb
  ·exact iteF rest
end
def FNd(P:Program)(w:World)(K:ku)(mg:Str->Option Ab)(base:Heap)(k:Nat)(name:Str)(ps:List Str)(dvs:List V)(sp:Sp):Prop:=
 ∃f fd ds,mg name=some (.ref f)/\PySem.W.keepIn K (.ref f)=true/\Vals dvs ds/\Zt K fd ps ds/\FnOk P w K mg base CX0 k f fd ps sp
def z5N(K:ku)(mg:Str->Option Ab)(name:Str)(st:Stmt):Prop:=
 ∃(f T:Aa)(oc kV doc pm cdv ct:Ab)(od an:Option Aa)(osl:Array (Option Ab))(to:Obj)(n:Nat),mg name=some (.ref f)/\PySem.W.keepIn K (.ref f)=true/\
  K.lookup f=some ⟨oc,od,.func<|PySem.W.fnOf name name (qF st) (zR st) (zc st) (.ref T) kV doc pm an cdv ct,osl⟩/\PySem.W.codeIn K cdv name=true/\K.lookup T=some to/\to.data=.seq #[Value.none] n
section
variable {X:Cx}{k:Nat}{name:Str}{ps:List Str}{dvs:List V}{sp:Sp}{p pos:Pos}{e:Expr}{es:List Expr}{t:TA}
def zB(F:FNd X.prog X.w X.K X.mg X.base k name ps dvs sp)(hr:Room k X.A)(hg:Gl X name)(ha:PA X (e::es) t)(hdb:autoParam ((name == ("__debug__":Str))=false) aR._auto_2)(he:autoParam (starEach (e::es) X.env=(false,eval e X.env)::starEach es X.env) aR._auto_1)(hpl:autoParam ((backTo pos<|starEach es X.env).any (·.1)=false) aR._auto_1):
  PE X (.Call (.Name name p) (e::es) [] pos) (z1A sp dvs E0 t):=by
 obtain⟨f,fd,ds,a,b,v,c,d⟩:=F;exact z4t d hr hg a b c v z3i ha hdb he hpl
end
section
inductive JT(vs:List V)(H:Hp)(Q:VK)(E:XK):Prop
|mk (r:Aa) (op:Str) (x:V) (ys:List V):vs=[.ref r,.str op,x]->H r=some (.lst ys)->ys.length<=100000->(∀a,H a=none->Q .non (upd (upd H a<|.tup [.str op,x,.int (10+(ys.length:Int) / 2)]) r<|.lst (ys++[.ref a])))->JT vs H Q E
def zbo:zj ["_law_rows","_law_op","_law_arg"] ["_law_rows","_law_op","_law_arg"] (zc<|top 100):=fsM
def z2J{n:Nat}(h:n<=100000):n < sizeLine:=Nat.lt_of_le_of_lt h (by decide)
def zaK(D:z5N K mg "_law_put" (top 100))(G:Glo mg):FNd P w K mg base 1 "_law_put" Vh [] JT/\FNd P w K mg base 1 "_law_put" Vh [.non] JT:=by
 obtain⟨f,T,oc,kV,doc,pm,cdv,ct,od,an,osl,to,n,m,kp,lk,hcd,lT,hT⟩:=D;have ok:FnOk P w K mg base CX0 1 f (PySem.W.fnOf "_law_put" "_law_put" (qF<|top 100) (zR<|top 100) (zc<|top 100) (.ref T) kV doc pm an cdv ct) ["_law_rows","_law_op","_law_arg"] JT:=by
  refine zaM lk hcd zbo (fun vs H Q E h=>by obtain⟨r,op,x,ys,rfl,_⟩:=h;rfl) (fun A vZ s H vs Q E hr h=>?_);obtain⟨r,op,x,ys,rfl,hr1,hl,q⟩:=h;refine⟨_,PSs.nox<|z8<|zi<|jS (pv 0)<|pa1<|zY<|pa3 (pv 1) (pv 2)<|zE qT zb<|zE jM (zq zr rfl G.len zK<|pa1<|pv 0) zb,?_⟩;refine⟨.inl ⟨rfl,_,SqL.of hr1⟩,r,_,rfl,.inl<|SqL.of hr1,_,_,rfl,rfl,⟨by decide,by decide⟩,_,_,rfl,rfl,vX,fun a ha=>?_⟩;have nra:r≠a:=zd hr1 ha;exact⟨r,ys,.ref a,rfl,rfl,by rw[zg nra];exact hr1,z2J hl,q a ha⟩
 have b3:Zt K (PySem.W.fnOf "_law_put" "_law_put" (qF<|top 100) (zR<|top 100) (zc<|top 100) (.ref T) kV doc pm an cdv ct) ["_law_rows","_law_op","_law_arg"] []:=fun s us X hl=>by
  match us,hl with
 |[u1,u2,u3],_=>exact BindsTo.of_defaults (T:=T) (o:=to) (items:=#[Value.none]) rfl (X _ _ lT) hT rfl rfl
 have b2:Zt K (PySem.W.fnOf "_law_put" "_law_put" (qF<|top 100) (zR<|top 100) (zc<|top 100) (.ref T) kV doc pm an cdv ct) ["_law_rows","_law_op","_law_arg"] [.none]:=fun s us X hl=>by
  have hl':us.length=2:=by simpa using hl
  match us,hl' with
 |[u1,u2],_=>exact BindsTo.of_defaults (T:=T) (o:=to) (items:=#[Value.none]) rfl (X _ _ lT) hT rfl rfl
 exact⟨⟨f,_,[],m,kp,.nil,b3,ok⟩,⟨f,_,[.none],m,kp,.cons rfl .nil,b2,ok⟩⟩
noncomputable def jT(k:Nat):List V:=(List.range k).map fun i:Nat=>V.int (i:Int)
def Ja(k:Nat):jT k++[.int (k:Int)]=jT (k+1):=by
 unfold jT;rw[List.range_succ,kK];rfl
def Zn(k:Nat):(jT k).length=k:=by unfold jT;simp
inductive spMk(vs:List V)(H:Hp)(Q:VK)(E:XK):Prop
|mk (m:Aa) (k:Nat):vs=[.ref m]->H m=some (.lst<|jT k)->k<=100000->Q (.int (k:Int)) (upd H m<|.lst<|jT (k+1))->spMk vs H Q E
def zbn:zj ["_law_marks"] ["_law_marks"] (zc<|top 101):=fsM
def zbS(D:zn K mg "_law_mark" (top 101))(G:Glo mg):FN P w K mg base 1 "_law_mark" ["_law_marks"] spMk:=by
 refine FN.o D zbn ?_;rintro _ _ _ _ _ _ _ _ _ _ ⟨m,k,rfl,hm,hk,q⟩;refine⟨_,z6 (zi<|jS (pv 0)<|pa1<|zq zr rfl G.len zK<|pa1<|pv 0)
  (z8<|zl<|zG zH (pv 0)<|Qi jO zb),?_⟩
 symm
 refine⟨.inl ⟨rfl,_,SqL.of hm⟩,m,_,rfl,.inl<|SqL.of hm,m,_,_,rfl,rfl,hm,by rw[Zn];exact z2J hk,?_⟩;rw[Zn,Ja];refine⟨1,rfl,m,_,_,.int (k:Int),rfl,rfl,SqL.of z7,?_,q⟩;rw[<-Ja];exact QQ _ _
inductive Qs(K:ku)(vs:List V)(H:Hp)(Q:VK)(E:XK):Prop
|mk (a t p:Aa) (ns:List Int) (c:Nat) (cells:List Int) (xs:List V):vs=[.ref a,.ref t,.ref p]->Scr K H a (ns.map V.int)->ns.length<=1000->cells.length=ns.length->H t=some (.lst<|qM c cells)->c<=100000->H p=some (.lst xs)->p≠t->1<=xs.length->xs.length<=1000->(∀(v:V)(cells':List Int) H',v∈xs->cells'.length=ns.length->H' t=some (.lst<|qM (c+1) cells')->Zk H H' t->Q v H')->Qs K vs H Q E
def sc98:zj ["_law_script","_law_town_here","_law_some"] ["_law_script","_law_town_here","_law_some"] (zc<|top 98):=fsM
abbrev Fj(P:Program)(w:World)(K:PySem.W.Frag)(mg:Str->Option Ab)(base:Heap):=FN P w K mg base 2 "_law_pick" ["_law_script","_law_town_here","_law_some"] (Qs K)
def z8I(D:zn K mg "_law_pick" (top 98))(G:Glo mg)(FD:FN P w K mg base 1 "_law_draw" Ve (z0N K)):Fj P w K mg base:=by
 refine FN.o D sc98 ?_;rintro _ _ _ _ _ _ _ _ _ hr ⟨a,t,p,ns,c,cells,xs,rfl,hS,hns,hcl,hT,hc,hp,hpt,hx1,hx2,q⟩;refine⟨_,z8<|zl<|zG zH (pv 2)<|zk FD hr rfl<|pa3 (pv 0) (pv 1)<|zq zr rfl G.len zK<|pa1<|pv 2,?_⟩
 symm
 refine⟨p,_,rfl,.inl<|SqL.of hp,a,t,ns,c,cells,_,rfl,hS,hns,hcl,hT,hc,by lia,by lia,fun i cells' H' h0 h1 hl' hT' k'=>?_⟩;obtain⟨j,rfl⟩:=kZ h0;have hj:j < xs.length:=by lia
 exact⟨p,_,_,xs[j],rfl,rfl,SqL.of<|k' p _ hp hpt,zm<|kL hj,q _ cells' H' (List.getElem_mem hj) hl' hT' k'⟩
inductive z00(K:ku)(vs:List V)(H:Hp)(Q:VK)(E:XK):Prop
|mk (a t:Aa) (ns:List Int) (c:Nat) (cells:List Int):vs=[.ref a,.ref t]->Scr K H a (ns.map V.int)->ns.length<=1000->cells.length=ns.length->H t=some (.lst<|qM c cells)->c<=100000->(∀(v:V)(cells':List Int) H',zU v=true->okV v=true->cells'.length=ns.length->H' t=some (.lst<|qM (c+1) cells')->Zk H H' t->Q v H')->z00 K vs H Q E
def sc99:zj ["_law_script","_law_town_here"] ["_law_script","_law_town_here"] (zc<|top 99):=fsM
def z1m:∀v∈([.int 0,.int 1,.int 2,.int 3,.int (-4),.int 7,.int (10 ^ (9:Int).toNat),.bl true,.bl false,.non,.str "Oops",.str "Zero"]:List V),zU v=true/\okV v=true:=vW
def z76(D:zn K mg "_law_const" (top 99))(FP:Fj P w K mg base):FN P w K mg base 3 "_law_const" Vd (z00 K):=by
 refine FN.o D sc99 ?_;rintro _ _ _ _ _ _ _ _ _ hr ⟨a,t,ns,c,cells,rfl,hS,hns,hcl,hT,hc,q⟩;refine⟨_,z8<|zl<|zk FP hr rfl<|pa3 (pv 0) (pv 1)<|zO<|zf zb<|zf zb<|zf zb<|zf zb<|zf (Qi jO zb)<|zf zb<|zf (zE z4x zb zb)<|zf Z2<|zf Z2<|pa3 qR zh zh,?_⟩
 symm
 refine⟨4,rfl,_,_,rfl,rfl,⟨by decide,by decide,by decide⟩,vX,fun p hp=>?_⟩;have s1:=ze hp (.lst [.int 0,.int 1,.int 2,.int 3,.int (-4),.int 7,.int (10 ^ (9:Int).toNat),.bl true,.bl false,.non,.str "Oops",.str "Zero"]);refine⟨a,t,p,ns,c,cells,_,rfl,hS.keep fun o u e=>s1 _ _ e,hns,hcl,s1 _ _ hT,hc,z7,(zd hT hp).symm,by show 1<=12;decide,by show 12<=1000;decide,fun v cells' H' hv hl' hT' k'=>?_⟩;exact q v cells' H' (z1m v hv).1 (z1m v hv).2 hl' hT' fun b o e hb=>k' b o (s1 _ _ e) hb
end
structure Pl where
 a:Aa
 t:Aa
 r:Aa
 m:Aa
 ns:List Int
structure GS(K:ku)(H:Hp)(p:Pl)(c:Nat)(rs:List Row)(k:Nat):Prop where
 scr:Scr K H p.a (p.ns.map V.int)
 nsl:p.ns.length<=1000
 town:∃cells:List Int,cells.length=p.ns.length/\H p.t=some (.lst<|qM c cells)
 rows:∃as,H p.r=some (.lst<|as.map V.ref)/\zI H as rs
 marks:H p.m=some (.lst<|jT k)
 tr:p.t≠p.r
 tm:p.t≠p.m
 rm:p.r≠p.m
structure Step(K:ku)(H H':Hp)(p:Pl)(c:Nat)(rs:List Row)(k:Nat)(c':Nat)(new:List Row)(k' B:Nat):Prop where
 gs:GS K H' p c' (rs++new) k'
 c1:c<=c'
 c2:c'<=c+B
 n:new.length<=B
 k1:k<=k'
 k2:k'<=k+B
 keep:zc4 H H' p.t p.r p.m
section
variable {K:ku}{H H' H1 H2:Hp}{p:Pl}{c c1 c2 k k1 k2 B B1 B2:Nat}{rs n1 n2:List Row}
def Step.trans(s:Step K H H1 p c rs k c1 n1 k1 B1)(u:Step K H1 H2 p c1 (rs++n1) k1 c2 n2 k2 B2):Step K H H2 p c rs k c2 (n1++n2) k2 (B1+B2) where
 gs:=by have:=u.gs;rw[kX] at this;exact this
 c1:=kr s.c1 u.c1
 c2:=by have:=s.c2;have:=u.c2;lia
 n:=by have:=s.n;have:=u.n;rw[km];lia
 k1:=kr s.k1 u.k1
 k2:=by have:=s.k2;have:=u.k2;lia
 keep:=fun b o e h1 h2 h3=>u.keep b o (s.keep b o e h1 h2 h3) h1 h2 h3
def Step.more(s:Step K H H1 p c rs k c1 n1 k1 B1)(h:B1<=B2):Step K H H1 p c rs k c1 n1 k1 B2:=
 ⟨s.gs,s.c1,by have:=s.c2;lia,by have:=s.n;lia,s.k1,by have:=s.k2;lia,s.keep⟩
def GS.refl(g:GS K H p c rs k):Step K H H p c rs k c [] k 0:=
 ⟨by rw[kW];exact g,kg _,kg _,kg _,kg _,kg _,fun _ _ e _ _ _=>e⟩
def GS.same(g:GS K H p c rs k)(s:Same H H'):GS K H' p c rs k:=by
 obtain⟨cells,h1,h2⟩:=g.town;obtain⟨as,h3,h4⟩:=g.rows;exact⟨g.scr.keep fun _ _ e=>s _ _ e,g.nsl,⟨cells,h1,s _ _ h2⟩,⟨as,s _ _ h3,h4.same s⟩,s _ _ g.marks,g.tr,g.tm,g.rm⟩
def GS.draw(g:GS K H p c rs k){cells':List Int}(hl:cells'.length=p.ns.length)(hT:H' p.t=some (.lst<|qM (c+1) cells'))(kp:Zk H H' p.t):Step K H H' p c rs k (c+1) [] k 1:=by
 obtain⟨cells,h1,h2⟩:=g.town;obtain⟨as,h3,h4⟩:=g.rows;refine⟨?_,by lia,by lia,by simp,kg _,by lia,fun b o e h1 _ _=>kp b o e h1⟩;rw[kW];exact⟨g.scr.keep1 kp h2,g.nsl,⟨cells',hl,hT⟩,⟨as,kp _ _ h3 g.tr.symm,h4.keep fun b xs e=>kp b _ e<|jI e h2 nofun⟩,kp _ _ g.marks g.tm.symm,g.tr,g.tm,g.rm⟩
def GS.put(g:GS K H p c rs k){x:Aa}(hx:H x=none){op:Str}{v:V}{as:List Aa}(h3:H p.r=some (.lst<|as.map V.ref))(h4:zI H as rs){l:Int}:
  Step K H (upd (upd H x<|.tup [.str op,v,.int l]) p.r<|.lst (as.map V.ref++[.ref x])) p c rs k c [⟨op,v,l⟩] k 1:=by
 obtain⟨cells,h1,h2⟩:=g.town;have nr:∀b o,H b=some o->b≠x:=fun b o e=>zd e hx
 have kp:∀b o,H b=some o->b≠p.r->(upd (upd H x<|.tup [.str op,v,.int l]) p.r<|.lst (as.map V.ref++[.ref x])) b=some o:=fun b o e hb=>by rw[zg hb,zg<|nr b o e];exact e
 have xr:x≠p.r:=(nr _ _ h3).symm;refine⟨⟨g.scr.keep fun o u e=>kp _ _ e<|jI e h3 nofun,g.nsl,⟨cells,h1,kp _ _ h2 g.tr⟩,⟨as++[x],by rw[kK];exact z7,?_⟩,kp _ _ g.marks g.rm.symm,g.tr,g.tm,g.rm⟩,kg _,by lia,by simp,kg _,by lia,fun b o e _ h2 _=>kp b o e h2⟩;refine zI.append (h4.keep fun b xs e=>kp b _ e<|jI e h3 nofun) (.cons ?_ .nil);rw[zg xr,z7];rfl
def GS.mk'(g:GS K H p c rs k):Step K H (upd H p.m<|.lst<|jT (k+1)) p c rs k c [] (k+1) 1:=by
 obtain⟨cells,h1,h2⟩:=g.town;obtain⟨as,h3,h4⟩:=g.rows;have kp:∀b o,H b=some o->b≠p.m->(upd H p.m<|.lst<|jT (k+1)) b=some o:=fun b o e hb=>by rw[zg hb];exact e
 refine⟨?_,kg _,by lia,by simp,by lia,kg _,fun b o e _ _ h3=>kp b o e h3⟩;rw[kW];exact⟨g.scr.keep fun o u e=>kp _ _ e<|jI e g.marks nofun,g.nsl,⟨cells,h1,kp _ _ h2 g.tm⟩,⟨as,kp _ _ h3 g.rm,h4.keep fun b xs e=>kp b _ e<|jI e g.marks nofun⟩,z7,g.tr,g.tm,g.rm⟩
def jC(g:GS K H p c rs k)(hc:c<=100000){many:Int}(h1:1<=many)(h2:many<=1000){Q:VK}{E:XK}(h:∀i H',0<=i->i < many->Step K H H' p c rs k (c+1) [] k 1->Q (.int i) H'):z0N K [.ref p.a,.ref p.t,.int many] H Q E:=by
 obtain⟨cells,e1,e2⟩:=g.town;exact⟨p.a,p.t,p.ns,c,cells,many,rfl,g.scr,g.nsl,e1,e2,hc,h1,h2,fun i cells' H' a b l t kp=>h i H' a b<|g.draw l t kp⟩
def qW(g:GS K H p c rs k)(hc:c<=100000){q:Aa}(hq:H q=none){xs:List V}(h1:1<=xs.length)(h2:xs.length<=1000){Q:VK}{E:XK}(h:∀v H',v∈xs->Step K H H' p c rs k (c+1) [] k 1->Q v H'):
  Qs K [.ref p.a,.ref p.t,.ref q] (upd H q<|.lst xs) Q E:=by
 have s1:=ze hq (.lst xs);have g1:=g.same s1;obtain⟨cells,e1,e2⟩:=g1.town;obtain⟨cells0,_,e20⟩:=g.town;exact⟨p.a,p.t,q,p.ns,c,cells,xs,rfl,g1.scr,g1.nsl,e1,e2,hc,z7,(zd e20 hq).symm,h1,h2,fun v cells' H' hv l t kp=>h v H' hv (g.draw l t fun b o e hb=>kp b o (s1 _ _ e) hb)⟩
def QK(g:GS K H p c rs k)(hc:c<=100000){Q:VK}{E:XK}(h:∀v H',zU v=true->okV v=true->Step K H H' p c rs k (c+1) [] k 1->Q v H'):z00 K [.ref p.a,.ref p.t] H Q E:=by
 obtain⟨cells,e1,e2⟩:=g.town;exact⟨p.a,p.t,p.ns,c,cells,rfl,g.scr,g.nsl,e1,e2,hc,fun v cells' H' hv ho l t kp=>h v H' hv ho<|g.draw l t kp⟩
def qa(g:GS K H p c rs k)(hl:rs.length<=100000){op:Str}{v:V}{Q:VK}{E:XK}(h:∀H',Step K H H' p c rs k c [⟨op,v,10+(rs.length:Int) / 2⟩] k 1->Q .non H'):JT [.ref p.r,.str op,v] H Q E:=by
 obtain⟨as,h3,h4⟩:=g.rows;have e:(as.map V.ref).length=rs.length:=by rw[kl];exact h4.len
 refine⟨p.r,op,v,_,rfl,h3,by lia,fun x hx=>?_⟩;rw[e];exact h _ (g.put hx h3 h4)
def z04(g:GS K H p c rs k)(hk:k<=100000){Q:VK}{E:XK}(h:∀H',Step K H H' p c rs k c [] (k+1) 1->Q (.int (k:Int)) H'):spMk [.ref p.m] H Q E:=⟨p.m,k,rfl,g.marks,hk,h _ g.mk'⟩
end
def PokR(op:Str)(v:V):Prop:=(op="push"->okV v=true)/\(op="store"\/op="load"->v∈([.str "a",.str "b",.str "c"]:List V))
def RowG(r:Row):Prop:=∃s,zx r.op=some s/\0<=r.line/\r.line<=9999/\PokR r.op r.arg/\((s="mark"/\∃m:Nat,r.arg=.int (m:Int))\/(s≠"mark"/\qk s r.arg=true))
noncomputable def ZE(m:Nat)(r:Row):Bool:=decide (r.op="label")&&decide (r.arg=.int (m:Int))
noncomputable def z0s(m:Nat)(r:Row):Bool:=decide (zx r.op=some ("mark":Str))&&decide (r.op≠"label")&&decide (r.arg=.int (m:Int))
noncomputable def lab(m:Nat)(l:List Row):Nat:=l.countP (ZE m)
noncomputable def use(m:Nat)(l:List Row):Nat:=l.countP (z0s m)
def zS(m:Nat)(a b:List Row):lab m (a++b)=lab m a+lab m b:=List.countP_append
def Z9(m:Nat)(a b:List Row):use m (a++b)=use m a+use m b:=List.countP_append
structure Good(k k':Nat)(l:List Row):Prop where
 row:∀r∈l,RowG r
 lab1:∀m,lab m l<=1
 labI:∀m,lab m l≠0->k<=m/\m < k'
 useI:∀m,use m l≠0->lab m l≠0
 labA:∀m,k<=m->m < k'->lab m l≠0
def Good.nil(k:Nat):Good k k []:=⟨(fun _ h=>by cases h),fun _=>vj _,fun _ h=>vd rfl h,fun _ h=>vd rfl h,fun _ _ _=>by lia⟩
def Good.app{k k1 k2:Nat}{a b:List Row}(x:Good k k1 a)(y:Good k1 k2 b)(h1:k<=k1)(h2:k1<=k2):Good k k2 (a++b):=by
 refine⟨fun r hr=>(kS.mp hr).elim (x.row r)<|y.row r,fun m=>?_,fun m h=>?_,fun m h=>?_,fun m ha hb=>?_⟩
 ·have:=x.lab1 m;have:=y.lab1 m;have:=x.labI m;have:=y.labI m
  rw[zS];lia
 ·have:=x.labI m;have:=y.labI m
  rw[zS] at h;lia
 ·have:=x.useI m;have:=y.useI m
  rw[Z9] at h;rw[zS];lia
 ·have:=x.labA m;have:=y.labA m
  rw[zS];lia
def Bare(op:Str)(v:V):Prop:=∃s,zx op=some s/\s≠"mark"/\qk s v=true/\PokR op v
def Bare.noLab{op:Str}{v:V}(h:Bare op v)(m:Nat)(l:Int):lab m [⟨op,v,l⟩]=0:=by
 obtain⟨s,hs,hm,_⟩:=h;have:op≠"label":=fun z=>hm (by rw[z,j4] at hs;exact (kC hs).symm)
 unfold lab;rw[vO];have:ZE m ⟨op,v,l⟩=false:=by unfold ZE;simp[this]
 rw[this];rfl
def Bare.noUse{op:Str}{v:V}(h:Bare op v)(m:Nat)(l:Int):use m [⟨op,v,l⟩]=0:=by
 obtain⟨s,hs,hm,_⟩:=h;unfold use;rw[vO];have:z0s m ⟨op,v,l⟩=false:=by
  unfold z0s;rw[hs];have:¬(some s=some ("mark":Str)):=fun z=>hm (kC z)
  simp[this]
 rw[this];rfl
def Bare.rowG{op:Str}{v:V}(h:Bare op v){l:Int}(h0:0<=l)(h1:l<=9999):RowG ⟨op,v,l⟩:=by
 obtain⟨s,hs,hm,hf,hp⟩:=h;exact⟨s,hs,h0,h1,hp,.inr ⟨hm,hf⟩⟩
def Bare.good{op:Str}{v:V}(h:Bare op v){l:Int}(h0:0<=l)(h1:l<=9999)(k:Nat):Good k k [⟨op,v,l⟩]:=
 ⟨fun r hr=>by rw[ko.mp hr];exact h.rowG h0 h1,fun m=>by rw[h.noLab];exact vj _,fun m z=>vd (h.noLab m l) z,fun m z=>vd (h.noUse m l) z,fun m _ _=>by lia⟩
def Uses(op:Str):Prop:=zx op=some ("mark":Str)/\op≠"label"
def Uses.noLab{op:Str}(h:Uses op)(m:Nat)(v:V)(l:Int):lab m [⟨op,v,l⟩]=0:=by
 unfold lab;rw[vO];have:ZE m ⟨op,v,l⟩=false:=by unfold ZE;simp[h.2]
 rw[this];rfl
noncomputable def ind(m j:Nat):Nat:=if m=j then 1 else 0
def zQ(m j:Nat):(m=j/\ind m j=1)\/(m≠j/\ind m j=0):=by
 unfold ind;by_cases e:m=j <;> simp[e]
def Uses.use{op:Str}(h:Uses op)(m j:Nat)(l:Int):use m [⟨op,.int (j:Int),l⟩]=ind m j:=by
 unfold My.use ind;rw[vO];have:z0s m ⟨op,.int (j:Int),l⟩=decide (m=j):=by
  unfold z0s;rw[h.1];have:(V.int (j:Int)=V.int (m:Int))↔m=j:=⟨fun z=>by injection z with z;lia,fun z=>by rw[z]⟩
  simp[h.2,this]
 rw[this];by_cases e:m=j <;> simp[e]
def Uses.rowG{op:Str}(h:Uses op){j:Nat}{l:Int}(h0:0<=l)(h1:l<=9999):RowG ⟨op,.int (j:Int),l⟩:=⟨"mark",h.1,h0,h1,⟨fun z=>vd (show zx "push"=some ("mark":Str) from (show op="push" from z)▸h.1) vW,fun z=>by rcases z with z|z;exact vd (show zx "store"=some ("mark":Str) from (show op="store" from z)▸h.1) vW;exact vd (show zx "load"=some ("mark":Str) from (show op="load" from z)▸h.1) vW⟩,.inl ⟨rfl,j,rfl⟩⟩
def qc(m j:Nat)(l:Int):lab m [⟨"label",.int (j:Int),l⟩]=ind m j:=by
 unfold lab ind;rw[vO];have:ZE m ⟨"label",.int (j:Int),l⟩=decide (m=j):=by
  unfold ZE;have:(V.int (j:Int)=V.int (m:Int))↔m=j:=⟨fun z=>by injection z with z;lia,fun z=>by rw[z]⟩
  simp[this]
 rw[this];by_cases e:m=j <;> simp[e]
def Zy(m:Nat)(v:V)(l:Int):use m [⟨"label",v,l⟩]=0:=by
 unfold use;rw[vO];have:z0s m ⟨"label",v,l⟩=false:=by unfold z0s;simp
 rw[this];rfl
def qA{j:Nat}{l:Int}(h0:0<=l)(h1:l<=9999):RowG ⟨"label",.int (j:Int),l⟩:=⟨"mark",j4,h0,h1,⟨fun z=>vd z (show ("label":Str)≠"push" by trivial),fun z=>by rcases z with z|z;exact vd z (show ("label":Str)≠"store" by trivial);exact vd z (show ("label":Str)≠"load" by trivial)⟩,.inl ⟨rfl,j,rfl⟩⟩
def Ty.cast{δ δ':Int}{su:Bool}{k k':Nat}{l:List Row}(x:Ty δ su k k' l)(h:δ=δ'):Ty δ' su k k' l:=h▸x
noncomputable def bV:Nat->Nat
|0=>3
|d+1=>2 * bV d+25
def JG:∀d,3<=bV d
|0=>kg _
|d+1=>by have:=JG d;show 3<=2 * bV d+25;lia
def qe(m:Nat):lab m []=0:=rfl
def Qe(m:Nat):use m []=0:=rfl
def AllG(l:List Row):Prop:=∀r∈l,RowG r
def AllG.nil:AllG []:=fun _ h=>by cases h
def AllG.app{a b:List Row}(x:AllG a)(y:AllG b):AllG (a++b):=fun r hr=>(kS.mp hr).elim (x r) (y r)
def AllG.one{r:Row}(h:RowG r):AllG [r]:=fun x hx=>by rw[ko.mp hx];exact h
def QB:Uses "try":=⟨vW,vW⟩
def qd:Uses "jump":=⟨vW,vW⟩
def z0G:Uses "iffalse":=⟨vW,vW⟩
def z9n:Uses "iftrue":=⟨vW,vW⟩
def z9l:Uses "ortrue":=⟨vW,vW⟩
def z9m:Uses "orfalse":=⟨vW,vW⟩
def jr{op:Str}(h:zx op=some ("none":Str)):Bare op .non:=⟨"none",h,vW,vW,fun _=>rfl,fun z=>by rcases z with z|z;exact vd (show zx "store"=some ("none":Str) from z▸h) vW;exact vd (show zx "load"=some ("none":Str) from z▸h) vW⟩
def QG:Bare "endtry" .non:=jr vW
def z33:Bare "drop" .non:=jr vW
def Zx:Bare "tell" .non:=jr vW
def zb8:Bare "same" .non:=jr vW
def z5G:Bare "raise" .non:=jr vW
def QP:Bare "return" .non:=jr vW
def JF{v:V}(h:zU v=true)(ho:okV v=true):Bare "push" v:=⟨"value",vW,vW,by unfold qk;rw[kz rfl];exact h,fun _=>ho,fun z=>by rcases z with z|z <;> exact vd z vW⟩
def z1x{v:V}(h:v∈([.str "a",.str "b",.str "c"]:List V)):Bare "load" v:=⟨"name",vW,vW,by revert v;decide+kernel,fun z=>vd z vW,fun _=>h⟩
def z9g{v:V}(h:v∈([.str "a",.str "b",.str "c"]:List V)):Bare "store" v:=⟨"name",vW,vW,by revert v;decide+kernel,fun z=>vd z vW,fun _=>h⟩
def z9h{v:V}(h:v∈([.str "b",.str "c"]:List V)):Bare "clear" v:=⟨"name",vW,vW,by revert v;decide+kernel,fun z=>vd z vW,fun z=>by rcases z with z|z <;> exact vd z vW⟩
def ZF{s:Str}{i lo hi:Int}(h:∀x,qk s x=zW x lo hi)(h0:lo<=i)(h1:i<=hi):qk s (.int i)=true:=by
 rw[h];show (decide (lo<=i)&&decide (i<=hi))=true;rw[kj h0,kj h1];rfl
def zb7{i:Int}(h0:2<=i)(h1:i<=9):Bare "swap" (.int i):=⟨"swapped",vW,vW,ZF (fun x=>by
 unfold qk;rw[ky vW,ky vW,ky vW,kz rfl];rfl) h0 h1,fun z=>vd z vW,fun z=>by rcases z with z|z <;> exact vd z vW⟩
def z7H{i:Int}(h0:1<=i)(h1:i<=9):Bare "copy" (.int i):=⟨"copied",vW,vW,ZF (fun x=>by
 unfold qk;rw[ky vW,ky vW,kz rfl];rfl) h0 h1,fun z=>vd z vW,fun z=>by rcases z with z|z <;> exact vd z vW⟩
section
variable {K:ku}{H H' H1 H2:Hp}{p:Pl}{c c1 c2 k k1 k2 B B1 B2:Nat}{rs n1 n2:List Row}
def Step.tick(s:Step K H H1 p c rs k c1 n1 k1 B1)(u:Step K H1 H2 p c1 (rs++n1) k1 c2 [] k2 B2):Step K H H2 p c rs k c2 n1 k2 (B1+B2):=by
 have:=s.trans u
 rw[kW] at this;exact this
def Step.len(s:Step K H H1 p c rs k c1 n1 k1 B1):(rs++n1).length<=rs.length+B1:=by
 have:=s.n
 rw[km];lia
end
inductive qw(K:ku)(C:Int->Nat->Prop)(δ:Int)(su:Bool)(vs:List V)(H:Hp)(Q:VK)(E:XK):Prop
|mk (p:Pl) (c:Nat) (rs:List Row) (k:Nat) (e:Int) (B:Nat):vs=[.ref p.a,.ref p.t,.ref p.r,.ref p.m,.int e]->C e B->GS K H p c rs k->c+B<=50000->rs.length+B<=15000->k+B<=15000->(∀c' new k' H',Step K H H' p c rs k c' new k' B->Good k k' new->Ty δ su k k' new->Q .non H')->qw K C δ su vs H Q E
def jA{K:ku}{C:Int->Nat->Prop}{δ:Int}{su:Bool}(vs:List V)(H:Hp)(Q:VK)(E:XK)(h:qw K C δ su vs H Q E):vs.length=5:=by
 obtain⟨p,c,rs,k,e,B,rfl,_⟩:=h;rfl
def CV(n:Nat)(e:Int)(B:Nat):Prop:=∃d:Nat,e=(d:Int)/\d < n/\B=bV d
def CTV(n:Nat)(e:Int)(B:Nat):Prop:=∃d:Nat,e=(d:Int)+1/\d < n/\B=bV d+7
def CMV(n:Nat)(_:Int)(B:Nat):Prop:=0 < n/\B=30
noncomputable abbrev gps:List Str:=["_law_script","_law_town_here","_law_rows","_law_marks","_law_deep"]
def zN{n:Nat}(h:n<=15000):(0:Int)<=10+(n:Int) / 2/\10+(n:Int) / 2<=9999:=by lia
section
structure jH(P:Program)(w:World)(K:ku)(mg:Str->Option Ab)(base:Heap):Prop where
 draw:FN P w K mg base 1 "_law_draw" Ve (z0N K)
 pick:Fj P w K mg base
 const:FN P w K mg base 3 "_law_const" Vd (z00 K)
 put3:FNd P w K mg base 1 "_law_put" Vh [] JT
 put2:FNd P w K mg base 1 "_law_put" Vh [.non] JT
 mark:FN P w K mg base 1 "_law_mark" ["_law_marks"] spMk
def z85:zj ["_law_script","_law_town_here","_law_rows","_law_marks","_law_deep","_law_mark_here","_law_end"] gps (zc<|top 103):=fsM
def la31{k ka kb kc m a b c i j:Nat}(a1:a<=1)(aI:a≠0->k+1+1<=m/\m < ka)(b1:b<=1)(bI:b≠0->ka<=m/\m < kb)(c1:c<=1)(cI:c≠0->kb<=m/\m < kc)(hi:m=k/\i=1\/m≠k/\i=0)(hj:m=k+1/\j=1\/m≠k+1/\j=0)(ha:k+1+1<=ka)(hb:ka<=kb):0+a+b+i+c+j<=1:=by lia
def la32{k ka kb kc m a b c i j:Nat}(h:0+a+b+i+c+j≠0)(aI:a≠0->k+1+1<=m/\m < ka)(bI:b≠0->ka<=m/\m < kb)(cI:c≠0->kb<=m/\m < kc)(hi:m=k/\i=1\/m≠k/\i=0)(hj:m=k+1/\j=1\/m≠k+1/\j=0)(ha:k+1+1<=ka)(hb:ka<=kb)(hc:kb<=kc):k<=m/\m < kc:=by lia
def la34{k ka kb kc m a b c i j:Nat}(h1:k<=m)(h2:m < kc)(aA:k+1+1<=m->m < ka->a≠0)(bA:ka<=m->m < kb->b≠0)(cA:kb<=m->m < kc->c≠0)(hi:m=k/\i=1\/m≠k/\i=0)(hj:m=k+1/\j=1\/m≠k+1/\j=0):0+a+b+i+c+j≠0:=by lia
def zbN{n:Nat}(D:zn K mg "_law_tried_value" (top 103))(S:jH P w K mg base)(FV:FN P w K mg base (3+2 * n) "_law_value" gps (qw K (CV n) 1 true)):FN P w K mg base (4+2 * n) "_law_tried_value" gps (qw K (CTV n) 1 true):=by
 have:=FN.of (k:=3+2 * n) (sp:=qw K (CTV n) 1 true) (P:=P) (w:=w) (base:=base) D z85 (fun _ _ _ _ _ _=>zU5 fun _ _ _ _ _=>rfl) jA (fun _ _ _ _ _ _ _ _ _ hr h=>?_)
 ·exact this.mono (by lia)
 obtain⟨p,c,rs,k,e,B,rfl,⟨d,he,hd,hB⟩,g,bc,br,bk,q⟩:=h;have hr1:=hr.mono (show 1<=3+2 * n by lia);refine⟨_,z6 (zM 5 z85.nd<|zk S.mark hr1 rfl<|pa1<|pvX 3)
  (z6 (zM 6 z85.nd<|zk S.mark hr1 rfl<|pa1<|pvX 3)
  (z6 (zi<|zB S.put3 hr1 rfl<|pa3 (pvX 2) zh<|pvX 5)
  (z6 (zi<|zk FV hr rfl<|zf (pvX 0)<|zf (pvX 1)<|pa3 (pvX 2) (pvX 3)<|zE jh (pvX 4) zb)
  (z6 (zi<|zB S.put2 hr1 rfl<|pa2 (pvX 2) zh)
  (z6 (zi<|zB S.put3 hr1 rfl<|pa3 (pvX 2) zh<|pvX 6)
  (z6 (zi<|zB S.put3 hr1 rfl<|pa3 (pvX 2) zh<|pvX 5)
  (z8<|zi<|zB S.put3 hr1 rfl<|pa3 (pvX 2) zh<|pvX 6))))))),?_⟩
 symm
 refine⟨_,rfl,z04 g (by lia) fun H1 s1=>?_⟩;refine⟨_,rfl,z04 s1.gs (by lia) fun H2 s2=>?_⟩;have t2:=s1.trans s2;refine⟨_,rfl,_,rfl,qa t2.gs (by have:=t2.n;rw[km];lia) fun H3 s3=>?_⟩;have t3:=t2.trans s3;refine⟨_,rfl,_,rfl,_,rfl,_,rfl,_,rfl,_,_,rfl,rfl,p,_,_,_,_,bV d,rfl,⟨d,(by show e - 1=_;lia),hd,rfl⟩,t3.gs,(by have:=t3.c2;lia),(by have:=t3.n;rw[km];lia),(by have:=t3.k2;lia),fun c4 n4 k4 H4 s4 g4 y4=>?_⟩;have t4:=t3.trans s4;refine⟨_,rfl,qa t4.gs (by have:=t4.n;rw[km];lia) fun H5 s5=>?_⟩;have t5:=t4.trans s5;refine⟨_,rfl,_,rfl,qa t5.gs (by have:=t5.n;rw[km];lia) fun H6 s6=>?_⟩;have t6:=t5.trans s6;refine⟨_,rfl,_,rfl,qa t6.gs (by have:=t6.n;rw[km];lia) fun H7 s7=>?_⟩;have t7:=t6.trans s7;refine⟨_,rfl,_,rfl,qa t7.gs (by have:=t7.n;rw[km];lia) fun H8 s8=>?_⟩;have t8:=t7.trans s8;have L2:=zN (n:=(rs++([]++[])).length) (by simp;lia);have L4:=zN (kr t4.len<|by lia);have L5:=zN (kr t5.len<|by lia);have L6:=zN (kr t6.len<|by lia);have L7:=zN (kr t7.len<|by lia);refine q _ _ _ _ (t8.more<|by lia) ⟨(((((((AllG.nil.app AllG.nil).app<|AllG.one<|QB.rowG L2.1 L2.2).app g4.row).app<|AllG.one<|QG.rowG L4.1 L4.2).app<|AllG.one<|qd.rowG L5.1 L5.2).app<|AllG.one<|qA L6.1 L6.2).app<|AllG.one<|qA L7.1 L7.2),fun m=>?_,fun m h=>?_,fun m h=>?_,fun m ha hb=>?_⟩ (Ty.triedv y4 s4.k1 _ _ _ _ _)
 ·simp only[zS,qe,qc,QB.noLab,QG.noLab,qd.noLab];exact la31 (b:=0) (c:=0) (kb:=k4) (kc:=k4) (g4.lab1 m) (g4.labI m) (vj 1) (fun z=>vd rfl z) (vj 1) (fun z=>vd rfl z) (zQ m k) (zQ m (k+1)) s4.k1 (kg _)
 ·simp only[zS,qe,qc,QB.noLab,QG.noLab,qd.noLab] at h;exact la32 (b:=0) (c:=0) (kb:=k4) h (g4.labI m) (fun z=>vd rfl z) (fun z=>vd rfl z) (zQ m k) (zQ m (k+1)) s4.k1 (kg _) (kg _)
 ·simp only[Z9,Qe,Zy,QB.use,QG.noUse,qd.use] at h;simp only[zS,qe,qc,QB.noLab,QG.noLab,qd.noLab];have:=g4.useI m
  lia
 ·simp only[zS,qe,qc,QB.noLab,QG.noLab,qd.noLab];exact la34 (b:=0) (c:=0) (kb:=k4) ha hb (g4.labA m) (fun x y=>vd y<|Nat.not_lt.mpr x) (fun x y=>vd y<|Nat.not_lt.mpr x) (zQ m k) (zQ m (k+1))
end
section
variable {k k1:Nat}{n1:List Row}
def Good.put(g:Good k k1 n1)(hk:k<=k1){op:Str}{v:V}(h:Bare op v){l:Int}(h0:0<=l)(h1:l<=9999):Good k k1 (n1++[⟨op,v,l⟩]):=g.app (h.good h0 h1 k1) hk (kg _)
end
section
def z4e:zj ["_law_script","_law_town_here","_law_rows","_law_marks","_law_deep","_law_many","_law_k"] gps (zc<|top 104):=fsM
def z3g{v:V}(h:v∈([.str "drop",.str "tell",.str "same"]:List V)):∃op,v=.str op/\Bare op .non/\(Zi op 1 0\/Zi op 2 1):=by
 rcases kE.mp h with e|h
 ·exact⟨_,e,z33,.inl<|js _<|by simp⟩
 ·rcases kE.mp h with e|h
  ·exact⟨_,e,Zx,.inl<|js _<|by simp⟩
  ·exact⟨_,ko.mp h,zb8,.inr<|Qu _<|by simp⟩
def zaN{n:Nat}(D:zn K mg "_law_moved_value" (top 104))(G:Glo mg)(S:jH P w K mg base)(FV:FN P w K mg base (3+2 * n) "_law_value" gps (qw K (CV n) 1 true)):FN P w K mg base (4+2 * n) "_law_moved_value" gps (qw K (CMV n) 1 true):=by
 have:=FN.of (k:=3+2 * n) (sp:=qw K (CMV n) 1 true) (P:=P) (w:=w) (base:=base) D z4e (fun _ _ _ _ _ _=>zU5 fun _ _ _ _ _=>rfl) jA (fun _ _ _ _ _ H _ Q _ hr h=>?_)
 ·exact this.mono (by lia)
 obtain⟨p,c,rs,k,e,B,rfl,⟨hn,hB⟩,g,bc,br,bk,q⟩:=h;have hr1:=hr.mono (show 1<=3+2 * n by lia);have hr2:=hr.mono (show 2<=3+2 * n by lia);refine⟨_,z6 (zM 5 z4e.nd<|zE qT zb<|zk S.draw hr1 rfl<|pa3 (pvX 0) (pvX 1) zb)
  (z6 (qQ vo rfl (qB rfl G.range<|pa1<|pvX 5) (zL 6 z4e.nd)<|z8<|zi<|zk FV hr rfl<|zf (pvX 0)<|zf (pvX 1)<|pa3 (pvX 2) (pvX 3) zb)
  (z6 (qQ vo rfl (qB rfl G.range<|pa1<|zk S.draw hr1 rfl<|pa3 (pvX 0) (pvX 1) zb) (zL 6 z4e.nd)
   (z8<|zi<|zB S.put3 hr1 rfl<|pa3 (pvX 2) zh<|zE qT zb<|zk S.draw hr1 rfl<|pa3 (pvX 0) (pvX 1)<|zE jh (pvX 5) zb))
  (z6 (zV (zo qX (zk S.draw hr1 rfl<|pa3 (pvX 0) (pvX 1) zb) zb<|zy _)
   (z6 (zi<|zB S.put3 hr1 rfl<|pa3 (pvX 2) zh<|zE qT zb<|zk S.draw hr1 rfl<|pa3 (pvX 0) (pvX 1)<|pvX 5)
    (z8<|zi<|zB S.put2 hr1 rfl<|pa2 (pvX 2) zh)) zC)
  (z8 (qQ vo rfl (qB rfl G.range<|pa1<|zE jh (pvX 5) zb) (zL 6 z4e.nd)
   (z8<|zi<|zB S.put2 hr1 rfl<|pa2 (pvX 2)<|zk S.pick hr2 rfl<|pa3 (pvX 0) (pvX 1)<|zO<|pa3 zh zh zh)))))),?_⟩
 symm
 refine⟨_,rfl,_,rfl,jC g (by lia) (by decide) (by decide) fun i0 H1 i00 i01 s1=>?_⟩;refine⟨_,_,rfl,rfl,?_⟩;have hm0:2<=2+i0/\2+i0<=4:=⟨by lia,by lia⟩
 show tSeq _ _ _ [some<|.ref p.a,some<|.ref p.t,some<|.ref p.r,some<|.ref p.m,some<|.int e,some<|.int (2+i0),none] H1;generalize (2+i0:Int)=many at *;refine⟨_,rfl,many,rfl,by lia,by lia,qJ (lo:=0) (n:=many.toNat) (fun i σ H2=>∃v c' new k',σ=[some<|.ref p.a,some<|.ref p.t,some<|.ref p.r,some<|.ref p.m,some<|.int e,some<|.int many,v]/\Step K H H2 p c rs k c' new k' (1+3 * i)/\Good k k' new/\Ty (i:Int) true k k' new)
  ⟨none,_,_,_,rfl,s1,Good.nil k,Ty.nil k⟩ ?_ ?_⟩
 ·rintro i σ H2 hi ⟨v,c',new,k',rfl,st,gd,ty⟩;have l:=st.len;refine⟨_,rfl,_,rfl,_,rfl,_,rfl,p,_,_,_,_,3,rfl,⟨0,rfl,hn,rfl⟩,st.gs,(by have:=st.c2;lia),(by lia),(by have:=st.k2;lia),fun c4 n4 k4 H4 s4 g4 y4=>?_⟩;exact⟨_,c4,new++n4,k4,rfl,(st.trans s4).more (by lia),gd.app g4 st.k1 s4.k1,(ty.app y4 st.k1 s4.k1<|by lia).cast<|by lia⟩
 rintro σ H2 ⟨v,c2,n2,k2,rfl,t2,g2,y2⟩;have y2:=y2.cast (show ((many.toNat:Nat):Int)=many by lia);have t2:=t2.more (show _<=13 by lia);have l2:=t2.len;refine⟨_,rfl,_,rfl,jC t2.gs (kr t2.c2<|by lia) (by decide) (by decide) fun j0 H3 j00 j01 s3=>?_⟩;have t3:=t2.tick s3;refine⟨j0,rfl,by lia,by lia,qJ (lo:=0) (n:=j0.toNat) (fun i σ H2=>∃v c' new k',σ=[some<|.ref p.a,some<|.ref p.t,some<|.ref p.r,some<|.ref p.m,some<|.int e,some<|.int many,v]/\Step K H H2 p c rs k c' new k' (14+2 * i)/\Good k k' new/\Ty many true k k' new)
  ⟨v,_,_,_,rfl,t3,g2,y2⟩ ?_ ?_⟩
 ·rintro i σ H2 hi ⟨v,c',new,k',rfl,st,gd,ty⟩;have l:=st.len;refine⟨_,rfl,_,rfl,_,rfl,_,rfl,_,_,rfl,rfl,jC st.gs (kr st.c2<|by lia) (by show 1<=many - 1;lia) (by show many - 1<=1000;lia) fun x H4 x0 x1 s4=>?_⟩;have x1:x < many - 1:=x1;have t4:=st.tick s4;have l4:=t4.len;refine⟨_,_,rfl,rfl,qa t4.gs (by lia) fun H5 s5=>?_⟩;have L:=zN (show (rs++new).length<=15000 by lia);exact⟨_,_,_,_,rfl,(t4.trans s5).more (by lia),gd.put st.k1 (zb7 (by lia)<|by lia) L.1 L.2,(ty.deep z94 (n:=2+x) (by lia) _).cast<|by lia⟩
 rintro σ H4 ⟨v4,c4,n4,k4,rfl,t4,g4,y4⟩;have t4:=t4.more (show _<=20 by lia);have l4:=t4.len;have last:∀{v5:Option V}{c5:Nat}{n5:List Row}{k5:Nat}{H5:Hp},Step K H H5 p c rs k c5 n5 k5 24->Good k k5 n5->Ty many true k k5 n5->
   tFor (zaB<|jg (tOp (rI0 fun i j=>.int (i - j)) (z39 5)<|tC<|.int 1) tNil) (Qm 6) (z9u<|z1A JT [.non] E0<|jg (z39 2)<|jg (z1A (Qs K) [] E0<|jg (z39 0)<|jg (z39 1)<|jg (tLst<|jg (tC<|.str "drop")<|jg (tC<|.str "tell")<|jg (tC<|.str "same") tNil) tNil) tNil)
    {nx:=fun _ H'=>Q .non H',rt:=Q} [some<|.ref p.a,some<|.ref p.t,some<|.ref p.r,some<|.ref p.m,some<|.int e,some<|.int many,v5] H5:=by
  intro v5 c5 n5 k5 H5 t5 g5 y5;refine⟨_,rfl,_,_,rfl,rfl,many - 1,rfl,by lia,by lia,qJ (lo:=0) (n:=(many - 1).toNat) (fun i σ H2=>∃v c' new k',σ=[some<|.ref p.a,some<|.ref p.t,some<|.ref p.r,some<|.ref p.m,some<|.int e,some<|.int many,v]/\Step K H H2 p c rs k c' new k' (24+2 * i)/\Good k k' new/\Ty (many - i) true k k' new)
   ⟨v5,_,_,_,rfl,t5,g5,y5.cast<|by lia⟩ ?_ ?_⟩
  ·rintro i σ H2 hi ⟨v,c',new,k',rfl,st,gd,ty⟩;have l:=st.len;refine⟨_,rfl,_,rfl,_,rfl,vX,fun x hx=>?_⟩;refine qW st.gs (kr st.c2<|by lia) hx (by show 1<=3;decide) (by show 3<=1000;decide) fun y H6 hy s6=>?_
   obtain⟨op,rfl,hb,hpl⟩:=z3g hy;have t6:=st.tick s6;have l6:=t6.len;refine qa t6.gs (by lia) fun H7 s7=>?_
   have L:=zN (show (rs++new).length<=15000 by lia);exact⟨_,_,_,_,rfl,(t6.trans s7).more (by lia),gd.put st.k1 hb L.1 L.2,hpl.elim (fun z=>(ty.row z (by lia) _ _).cast<|by lia) fun z=>(ty.row z (by lia) _ _).cast<|by lia⟩
  ·rintro σ H2 ⟨v,c',new,k',rfl,st,gd,ty⟩;exact q _ _ _ _ (st.more<|by lia) gd (ty.cast<|by lia)
 refine⟨_,rfl,_,rfl,jC t4.gs (kr t4.c2<|by lia) (by decide) (by decide) fun y0 H5 y00 y01 s5=>?_⟩;have t5:=t4.tick s5;have l5:=t5.len;refine⟨rfl,_,rfl,?_⟩;refine ite2 (fun _=>?_) (fun _=>last (t5.more<|by lia) g4 y4);refine⟨_,rfl,_,rfl,_,rfl,_,rfl,jC t5.gs (kr t5.c2<|by lia) (by lia) (by lia) fun z H6 z0 z1 s6=>?_⟩;have t6:=t5.tick s6;have l6:=t6.len;refine⟨_,_,rfl,rfl,qa t6.gs (by lia) fun H7 s7=>?_⟩;have t7:=t6.trans s7;have l7:=t7.len;refine⟨_,rfl,qa t7.gs (by lia) fun H8 s8=>?_⟩;have L6:=zN (show (rs++n4).length<=15000 by lia);have L7:=zN (kr t7.len (show _<=15000 by lia));exact last ((t7.trans s8).more<|by lia) ((g4.put t4.k1 (z7H (by lia)<|by lia) L6.1 L6.2).put t4.k1 z33 L7.1 L7.2) (((y4.deep z5m (n:=1+z) (by lia) _).row (js _<|by simp) (by lia) _ _).cast<|by lia)
end
section
def z86:zj ["_law_script","_law_town_here","_law_rows","_law_marks","_law_deep","_law_way","_law_mark_here"] gps (zc<|top 102):=fsM
def J1{v:V}{a b:Str}(h:v∈([.str a,.str b]:List V)){R:Str->Prop}(ha:R a)(hb:R b):∃op,v=.str op/\R op/\op∈[a,b]:=by
 rcases kE.mp h with e|h
 ·exact⟨_,e,ha,by simp⟩
 ·exact⟨_,ko.mp h,hb,by simp⟩
def z3f{v:V}(h:v∈([.str "add",.str "sub",.str "mul",.str "div",.str "rest",.str "less",.str "same"]:List V)):∃op,v=.str op/\Bare op .non/\Zi op 2 1:=by
 have all:∀v∈([.str "add",.str "sub",.str "mul",.str "div",.str "rest",.str "less",.str "same"]:List V),∃op,v=.str op/\zx op=some ("none":Str)/\Zi op 2 1:=by
  intro v h;simp only[kE,kq,or_false] at h;rcases h with rfl|rfl|rfl|rfl|rfl|rfl|rfl
  all_goals exact⟨_,rfl,vW,Qu _<|by simp⟩
 obtain⟨op,e,hs,hp⟩:=all v h;exact⟨op,e,jr hs,hp⟩
def fn_v{n:Nat}(D:zn K mg "_law_value" (top 102))(S:jH P w K mg base)(FV:FN P w K mg base (3+2 * n) "_law_value" gps (qw K (CV n) 1 true))(FT:FN P w K mg base (4+2 * n) "_law_tried_value" gps (qw K (CTV n) 1 true))(FM:FN P w K mg base (4+2 * n) "_law_moved_value" gps (qw K (CMV n) 1 true)):FN P w K mg base (3+2 * (n+1)) "_law_value" gps (qw K (CV (n+1)) 1 true):=by
 have:=FN.of (k:=4+2 * n) (sp:=qw K (CV (n+1)) 1 true) (P:=P) (w:=w) (base:=base) D z86 (fun _ _ _ _ _ _=>zU5 fun _ _ _ _ _=>rfl) jA (fun _ _ _ _ _ _ _ _ _ hr h=>?_)
 ·exact this.mono (by lia)
 obtain⟨p,c,rs,k,e,B,rfl,⟨d,he,hd,hB⟩,g,bc,br,bk,q⟩:=h;have hr1:=hr.mono (show 1<=4+2 * n by lia);have hr2:=hr.mono (show 2<=4+2 * n by lia);have hr3:=hr.mono (show 3<=4+2 * n by lia);have hrV:=hr.mono (show 3+2 * n<=4+2 * n by lia);have hb3:=JG d;refine⟨_,z6 (zM 5 z86.nd<|j9 (zo J6 (pvX 4) zb<|zy _) (zk S.draw hr1 rfl<|pa3 (pvX 0) (pvX 1) zb)<|zk S.draw hr1 rfl<|pa3 (pvX 0) (pvX 1) zb)
  (z8 (zV (zo z0f (pvX 5) zb<|zy _) (z8<|zi<|zB S.put3 hr1 rfl<|pa3 (pvX 2) zh<|zk S.const hr3 rfl<|pa2 (pvX 0)<|pvX 1)
  (z8 (zV (zo z0f (pvX 5) zb<|zy _) (z8<|zi<|zB S.put3 hr1 rfl<|pa3 (pvX 2) zh<|zk S.pick hr2 rfl<|pa3 (pvX 0) (pvX 1)<|zO<|pa3 zh zh zh)
  (z8 (zV (zo z0f (pvX 5) zb<|zy _)
   (z6 (zi<|zk FV hrV rfl<|zf (pvX 0)<|zf (pvX 1)<|pa3 (pvX 2) (pvX 3)<|zE jh (pvX 4) zb)
   (z6 (zi<|zk FV hrV rfl<|zf (pvX 0)<|zf (pvX 1)<|pa3 (pvX 2) (pvX 3)<|zE jh (pvX 4) zb)
   (z8<|zi<|zB S.put2 hr1 rfl<|pa2 (pvX 2)<|zk S.pick hr2 rfl<|pa3 (pvX 0) (pvX 1)<|zO<|zf zh<|zf zh<|zf zh<|zf zh<|pa3 zh zh zh)))
  (z8 (zV (zo qX (pvX 5) zb<|zy _)
   (z6 (zi<|zk FV hrV rfl<|zf (pvX 0)<|zf (pvX 1)<|pa3 (pvX 2) (pvX 3)<|zE jh (pvX 4) zb)
   (z8<|zi<|zB S.put2 hr1 rfl<|pa2 (pvX 2)<|zk S.pick hr2 rfl<|pa3 (pvX 0) (pvX 1)<|zO<|pa2 zh zh))
  (z8 (zV (zo qX (pvX 5) zb<|zy _)
   (z6 (zM 6 z86.nd<|zk S.mark hr1 rfl<|pa1<|pvX 3)
   (z6 (zi<|zk FV hrV rfl<|zf (pvX 0)<|zf (pvX 1)<|pa3 (pvX 2) (pvX 3)<|zE jh (pvX 4) zb)
   (z6 (zi<|zB S.put3 hr1 rfl<|pa3 (pvX 2) (zk S.pick hr2 rfl<|pa3 (pvX 0) (pvX 1)<|zO<|pa2 zh zh)<|pvX 6)
   (z6 (zi<|zk FV hrV rfl<|zf (pvX 0)<|zf (pvX 1)<|pa3 (pvX 2) (pvX 3)<|zE jh (pvX 4) zb)
   (z8<|zi<|zB S.put3 hr1 rfl<|pa3 (pvX 2) zh<|pvX 6)))))
  (z8 (zV (zo qX (pvX 5) zb<|zy _)
   (z8<|zi<|zk FT hr rfl<|zf (pvX 0)<|zf (pvX 1)<|pa3 (pvX 2) (pvX 3)<|pvX 4)
   (z8<|zi<|zk FM hr rfl<|zf (pvX 0)<|zf (pvX 1)<|pa3 (pvX 2) (pvX 3)<|pvX 4))))))))))))) ,?_⟩
 symm
 refine⟨_,rfl,_,_,rfl,rfl,_,rfl,?_⟩;refine ite2 (fun c0=>?_) (fun c0=>?_);all_goals
  refine⟨_,rfl,_,rfl,jC g (by lia) (by decide) (by decide) fun i H1 i0 i1 s1=>?_⟩;have i12:i < 12:=by lia
  have i4:e<=0->i < 4:=fun z=>by
   first
   |exact i1
   |(have:=kD c0;lia)
  have l1:=s1.len;refine⟨_,rfl,_,_,rfl,rfl,_,rfl,?_⟩;refine ite2 (fun c1=>?_) (fun c1=>?_)
  ·refine⟨_,rfl,_,rfl,_,rfl,QK s1.gs (kr s1.c2<|by lia) fun v H2 hv hvo s2=>?_⟩;have t2:=s1.tick s2;have l2:=t2.len;refine qa t2.gs (by lia) fun H3 s3=>?_
   have L:=zN (kr t2.len (show _<=15000 by lia));exact q _ _ _ _ ((t2.trans s3).more<|by lia) ((Good.nil k).put (kg _) (JF hv hvo) L.1 L.2) (((Ty.nil k).row z08 (by decide) _ _).cast<|by decide)
  ·refine⟨_,rfl,_,_,rfl,rfl,_,rfl,?_⟩;refine ite2 (fun c2=>?_) (fun c2=>?_)
   ·refine⟨_,rfl,_,rfl,_,rfl,vX,fun x hx=>?_⟩;refine qW s1.gs (kr s1.c2<|by lia) hx (by show 1<=3;decide) (by show 3<=1000;decide) fun v H2 hv s2=>?_
    have t2:=s1.tick s2;have l2:=t2.len;refine qa t2.gs (by lia) fun H3 s3=>?_
    have L:=zN (kr t2.len (show _<=15000 by lia));exact q _ _ _ _ ((t2.trans s3).more<|by lia) ((Good.nil k).put (kg _) (z1x hv) L.1 L.2) (((Ty.nil k).row z1U (by decide) _ _).cast<|by decide)
   ·have c2:¬i < 4:=fun z=>c2 (kj z)
    have e0:¬e<=0:=fun z=>c2 (i4 z)
    obtain⟨d',rfl⟩:∃d',d=d'+1:=⟨d - 1,by lia⟩
    have eB:bV (d'+1)=2 * bV d'+25:=rfl;have cv:CV n (e - 1) (bV d'):=⟨d',by lia,by lia,rfl⟩
    refine⟨_,rfl,_,_,rfl,rfl,_,rfl,?_⟩;refine ite2 (fun c3=>?_) (fun c3=>?_)
    ·refine⟨_,rfl,_,rfl,_,rfl,_,rfl,_,rfl,_,_,rfl,rfl,p,_,_,_,_,bV d',rfl,cv,s1.gs,(by have:=s1.c2;lia),(by lia),(by have:=s1.k2;lia),fun c4 n4 k4 H4 s4 g4 y4=>?_⟩;have t4:=s1.trans s4;have l4:=t4.len;refine⟨_,rfl,_,rfl,_,rfl,_,rfl,_,rfl,_,_,rfl,rfl,p,_,_,_,_,bV d',rfl,cv,t4.gs,(by have:=t4.c2;lia),(by lia),(by have:=t4.k2;lia),fun c5 n5 k5 H5 s5 g5 y5=>?_⟩;have t5:=t4.trans s5;have l5:=t5.len;refine⟨_,rfl,_,rfl,_,rfl,vX,fun x hx=>?_⟩;refine qW t5.gs (kr t5.c2<|by lia) hx (by show 1<=7;decide) (by show 7<=1000;decide) fun v H6 hv s6=>?_
     obtain⟨op,rfl,hb,hpl⟩:=z3f hv;have t6:=t5.tick s6;refine qa t6.gs (kr t6.len<|by lia) fun H7 s7=>?_
     have L:=zN (kr t6.len (show _<=15000 by lia));exact q _ _ _ _ ((t6.trans s7).more<|by lia) ((((Good.nil k).app g4 (kg _) s4.k1).app g5 s4.k1 s5.k1).put t5.k1 hb L.1 L.2) (((y4.app y5 s4.k1 s5.k1<|by decide).row hpl (by decide) _ _).cast<|by decide)
    ·refine⟨_,rfl,rfl,_,rfl,?_⟩;refine ite2 (fun c4=>?_) (fun c4=>?_)
     ·refine⟨_,rfl,_,rfl,_,rfl,_,rfl,_,rfl,_,_,rfl,rfl,p,_,_,_,_,bV d',rfl,cv,s1.gs,(by have:=s1.c2;lia),(by lia),(by have:=s1.k2;lia),fun c4 n4 k4 H4 s4 g4 y4=>?_⟩;have t4:=s1.trans s4;have l4:=t4.len;refine⟨_,rfl,_,rfl,_,rfl,vX,fun x hx=>?_⟩;refine qW t4.gs (kr t4.c2<|by lia) hx (by show 1<=2;decide) (by show 2<=1000;decide) fun v H6 hv s6=>?_
      obtain⟨op,rfl,hb,hmem⟩:=J1 hv (R:=fun op=>Bare op .non) (jr vW) (jr vW);have t6:=t4.tick s6;refine qa t6.gs (kr t6.len<|by lia) fun H7 s7=>?_
      have L:=zN (kr t6.len (show _<=15000 by lia));exact q _ _ _ _ ((t6.trans s7).more<|by lia) (((Good.nil k).app g4 (kg _) s4.k1).put t4.k1 hb L.1 L.2) ((y4.row (z4m _ hmem) (by decide) _ _).cast<|by decide)
     ·refine⟨_,rfl,rfl,_,rfl,?_⟩;refine ite2 (fun c5=>?_) (fun c5=>?_)
      ·refine⟨_,rfl,z04 s1.gs (kr s1.k2<|by lia) fun H2 s2=>?_⟩;have t2:=s1.tick s2;refine⟨_,rfl,_,rfl,_,rfl,_,rfl,_,rfl,_,_,rfl,rfl,p,_,_,_,_,bV d',rfl,cv,t2.gs,(kr (Ae t2.c2 _)<|by lia),(kr (Ae t2.len _)<|by lia),(kr (Ae t2.k2 _)<|by lia),fun c4 n4 k4 H4 s4 g4 y4=>?_⟩;have t4:=t2.trans s4;refine⟨_,rfl,_,rfl,_,rfl,vX,fun x hx=>?_⟩;refine qW t4.gs (kr t4.c2<|by lia) hx (by show 1<=2;decide) (by show 2<=1000;decide) fun v H5 hv s5=>?_
       obtain⟨op,rfl,hb,hmem⟩:=J1 hv (R:=Uses) z9l z9m;have t5:=t4.tick s5;refine⟨_,rfl,qa t5.gs (kr t5.len<|by lia) fun H6 s6=>?_⟩;have t6:=t5.trans s6;refine⟨_,rfl,_,rfl,_,rfl,_,rfl,_,rfl,_,_,rfl,rfl,p,_,_,_,_,bV d',rfl,cv,t6.gs,(kr (Ae t6.c2 _)<|by lia),(kr (Ae t6.len _)<|by lia),(kr (Ae t6.k2 _)<|by lia),fun c7 n7 k7 H7 s7 g7 y7=>?_⟩;have t7:=t6.trans s7;refine⟨_,rfl,_,rfl,qa t7.gs (kr t7.len<|by lia) fun H8 s8=>?_⟩;have L5:=zN (kr t5.len (show _<=15000 by lia));have L7:=zN (kr t7.len (show _<=15000 by lia));refine q _ _ _ _ ((t7.trans s8).more<|by lia) ⟨((((AllG.nil.app g4.row).app<|AllG.one<|hb.rowG L5.1 L5.2).app g7.row).app<|AllG.one<|qA L7.1 L7.2),fun m=>?_,fun m h=>?_,fun m h=>?_,fun m ha hb'=>?_⟩ (Ty.orv y4 y7 s4.k1 s7.k1 hmem _ _)
       ·simp only[zS,qe,qc,hb.noLab];have:=g4.lab1 m;have:=g4.labI m;have:=g7.lab1 m;have:=g7.labI m;have:=zQ m k;have:=s4.k1
        lia
       ·simp only[zS,qe,qc,hb.noLab] at h;have:=g4.labI m;have:=g7.labI m;have:=zQ m k;have:=s4.k1;have:=s7.k1
        lia
       ·simp only[Z9,Qe,Zy,hb.use] at h;simp only[zS,qe,qc,hb.noLab];have:=g4.useI m;have:=g7.useI m
        lia
       ·simp only[zS,qe,qc,hb.noLab];have:=g4.labA m;have:=g7.labA m;have:=zQ m k
        lia
      ·refine⟨_,rfl,rfl,_,rfl,?_⟩;refine ite2 (fun c6=>?_) (fun c6=>?_)
       ·refine⟨_,rfl,_,rfl,_,rfl,_,rfl,_,rfl,p,_,_,_,_,bV d'+7,rfl,⟨d',by lia,by lia,rfl⟩,s1.gs,(by have:=s1.c2;lia),(by lia),(by have:=s1.k2;lia),fun c4 n4 k4 H4 s4 g4 y4=>?_⟩;exact q _ _ _ _ ((s1.trans s4).more<|by lia) ((Good.nil k).app g4 (kg _) s4.k1) y4
       ·refine⟨_,rfl,_,rfl,_,rfl,_,rfl,_,rfl,p,_,_,_,_,30,rfl,⟨by lia,rfl⟩,s1.gs,(by have:=s1.c2;have:=JG d';lia),(by have:=JG d';lia),(by have:=s1.k2;have:=JG d';lia),fun c4 n4 k4 H4 s4 g4 y4=>?_⟩;exact q _ _ _ _ ((s1.trans s4).more<|by have:=JG d';lia) ((Good.nil k).app g4 (kg _) s4.k1) y4
def z2Q{name:Str}{st:Stmt}{k:Nat}{C:Int->Nat->Prop}{δ:Int}{su:Bool}(D:zn K mg name st)(hb:∀(kV doc pm:Ab)(an:Option Aa)(cdv ct:Ab)(us:List Ab),us.length=gps.length->bindArgs (PySem.W.fnOf name name (qF st) (zR st) (zc st) .none kV doc pm an cdv ct) ⟨us,[]⟩=pure (gps.zip us))(no:∀e B,¬C e B):FN P w K mg base k name gps (qw K C δ su):=by
 obtain⟨f,fd,F,m⟩:=D;have no':∀vs H Q E,¬qw K C δ su vs H Q E:=fun vs H Q E h=>by
  obtain⟨_,_,_,_,e,B,_,hc,_⟩:=h;exact no e B hc
 exact⟨f,fd,m,F.kp,F.binds hb,⟨fun vs H Q E h=>vd h<|no' vs H Q E,fun A vZ s H args us vs Q E _ _ _ _ h=>vd h<|no' vs H Q E⟩⟩
def z1h(DV:zn K mg "_law_value" (top 102))(DT:zn K mg "_law_tried_value" (top 103))(DM:zn K mg "_law_moved_value" (top 104))(G:Glo mg)(S:jH P w K mg base):∀n,FN P w K mg base (3+2 * n) "_law_value" gps (qw K (CV n) 1 true)
|0=>z2Q DV (fun _ _ _ _ _ _=>zU5 fun _ _ _ _ _=>rfl) fun e B ⟨d,_,h,_⟩=>vd h (Nat.not_lt_zero _)
|n+1=>by
  have ih:=z1h DV DT DM G S n;exact fn_v DV S ih (zbN DT S ih) (zaN DM G S ih)
end
noncomputable def bD:Nat->Nat
|0=>92
|d+1=>2 * bD d+200
def z1y:∀d,92<=bD d
|0=>kg _
|d+1=>by have:=z1y d;show 92<=2 * bD d+200;lia
def CD(n:Nat)(e:Int)(B:Nat):Prop:=∃d:Nat,e=(d:Int)/\d < n/\B=bD d
def CC(n:Nat)(e:Int)(B:Nat):Prop:=∃d:Nat,e=(d:Int)+1/\d < n/\B=2 * bD d+150
def Ty.choice0{k k1 k2:Nat}{l1 l2:List Row}{s2:Bool}(x:Ty 1 true (k+2) k1 l1)(y:Ty 0 s2 k1 k2 l2)(h1:k+2<=k1)(h2:k1<=k2){op:Str}(ho:op∈(["iftrue","iffalse"]:List Str))(a b c e:Int):
  Ty 0 true k k2 (l1++[⟨op,.int (k:Int),a⟩]++l2++[⟨"jump",.int ((k+1:Nat):Int),b⟩]++[⟨"label",.int (k:Int),c⟩]++[⟨"label",.int ((k+1:Nat):Int),e⟩]):=by
 have:=Ty.choice x y (Ty.nil k2) h1 h2 (kg _) ho a b c e
 rw[kW] at this;exact this
def cv1:CV 3 1 31:=⟨1,rfl,by decide,rfl⟩
def cv2:CV 3 2 87:=⟨2,rfl,by decide,rfl⟩
def cv0:CV 3 0 3:=⟨0,rfl,by decide,rfl⟩
section
def z9K:zj ["_law_script","_law_town_here","_law_rows","_law_marks","_law_deep","_law_other","_law_end"] gps (zc<|top 106):=fsM
abbrev Fk(P:Program)(w:World)(K:PySem.W.Frag)(mg:Str->Option Ab)(base:Heap):=FN P w K mg base 9 "_law_value" gps (qw K (CV 3) 1 true)
def z5h{n:Nat}(D:zn K mg "_law_choice" (top 106))(S:jH P w K mg base)(FV:Fk P w K mg base)(FD:FN P w K mg base (10+2 * n) "_law_deed" gps (qw K (CD n) 0 false)):FN P w K mg base (11+2 * n) "_law_choice" gps (qw K (CC n) 0 false):=by
 have:=FN.of (k:=10+2 * n) (sp:=qw K (CC n) 0 false) (P:=P) (w:=w) (base:=base) D z9K (fun _ _ _ _ _ _=>zU5 fun _ _ _ _ _=>rfl) jA (fun _ _ _ _ _ _ _ _ _ hr h=>?_)
 ·exact this.mono (by lia)
 obtain⟨p,c,rs,k,e,B,rfl,⟨d,he,hd,hB⟩,g,bc,br,bk,q⟩:=h;have hr1:=hr.mono (show 1<=10+2 * n by lia);have hr2:=hr.mono (show 2<=10+2 * n by lia);have hr9:=hr.mono (show 9<=10+2 * n by lia);have bp:=z1y d;have cd:CD n (e - 1) (bD d):=⟨d,by lia,hd,rfl⟩
 refine⟨_,z6 (J0 (i:=5) (j:=6) rfl z9K.nd rfl rfl (by decide) rfl rfl (pa2 (zk S.mark hr1 rfl<|pa1<|pvX 3)<|zk S.mark hr1 rfl<|pa1<|pvX 3) rfl)
  (z6 (zi<|zk FV hr9 rfl<|zf (pvX 0)<|zf (pvX 1)<|pa3 (pvX 2) (pvX 3) zb)
  (z6 (zi<|zB S.put3 hr1 rfl<|pa3 (pvX 2) (zk S.pick hr2 rfl<|pa3 (pvX 0) (pvX 1)<|zO<|pa2 zh zh)<|pvX 5)
  (z6 (zi<|zk FD hr rfl<|zf (pvX 0)<|zf (pvX 1)<|pa3 (pvX 2) (pvX 3)<|zE jh (pvX 4) zb)
  (z6 (zi<|zB S.put3 hr1 rfl<|pa3 (pvX 2) zh<|pvX 6)
  (z6 (zi<|zB S.put3 hr1 rfl<|pa3 (pvX 2) zh<|pvX 5)
  (z6 (zV (zo qX (zk S.draw hr1 rfl<|pa3 (pvX 0) (pvX 1) zb) zb<|zy _)
   (z8<|zi<|zk FD hr rfl<|zf (pvX 0)<|zf (pvX 1)<|pa3 (pvX 2) (pvX 3)<|zE jh (pvX 4) zb) zC)
  (z8<|zi<|zB S.put3 hr1 rfl<|pa3 (pvX 2) zh<|pvX 6))))))) ,?_⟩
 symm
 refine⟨_,rfl,z04 g (by lia) fun H1 s1=>?_⟩;refine⟨_,rfl,z04 s1.gs (kr s1.k2<|by lia) fun H2 s2=>?_⟩;refine⟨_,_,rfl,?_⟩;have t2:=s1.tick s2;refine⟨_,rfl,_,rfl,_,rfl,_,rfl,p,_,_,_,_,31,rfl,cv1,t2.gs,(kr (Ae t2.c2 _)<|by lia),(kr (Ae t2.len _)<|by lia),(kr (Ae t2.k2 _)<|by lia),fun c3 n3 k3 H3 s3 g3 y3=>?_⟩;have t3:=t2.trans s3;refine⟨_,rfl,_,rfl,_,rfl,vX,fun x hx=>?_⟩;refine qW t3.gs (kr t3.c2<|by lia) hx (by show 1<=2;decide) (by show 2<=1000;decide) fun v H4 hv s4=>?_
 obtain⟨op,rfl,hb,hmem⟩:=J1 hv (R:=Uses) z0G z9n;have hmem:op∈(["iftrue","iffalse"]:List Str):=by
  rcases kE.mp hmem with z|z
  ·rw[z];decide+kernel
  ·rw[ko.mp z];decide+kernel
 have t4:=t3.tick s4;refine⟨_,rfl,qa t4.gs (kr t4.len<|by lia) fun H5 s5=>?_⟩;have t5:=t4.trans s5;refine⟨_,rfl,_,rfl,_,rfl,_,rfl,_,rfl,_,_,rfl,rfl,p,_,_,_,_,bD d,rfl,cd,t5.gs,(kr (Ae t5.c2 _)<|by lia),(kr (Ae t5.len _)<|by lia),(kr (Ae t5.k2 _)<|by lia),fun c6 n6 k6 H6 s6 g6 y6=>?_⟩;have t6:=t5.trans s6;refine⟨_,rfl,_,rfl,qa t6.gs (kr t6.len<|by lia) fun H7 s7=>?_⟩;have t7:=t6.trans s7;refine⟨_,rfl,_,rfl,qa t7.gs (kr t7.len<|by lia) fun H8 s8=>?_⟩;have t8:=t7.trans s8;refine⟨_,rfl,_,rfl,jC t8.gs (kr t8.c2<|by lia) (by decide) (by decide) fun y0 H9 y00 y01 s9=>?_⟩;have t9:=t8.tick s9;have L4:=zN (kr t4.len (show _<=15000 by lia));have L6:=zN (kr t6.len (show _<=15000 by lia));have L7:=zN (kr t7.len (show _<=15000 by lia));have all9:=((((AllG.nil.app g3.row).app<|AllG.one<|hb.rowG (j:=k) L4.1 L4.2).app g6.row).app<|AllG.one<|qd.rowG (j:=k+1) L6.1 L6.2).app (AllG.one<|qA (j:=k) L7.1 L7.2);refine⟨rfl,_,rfl,?_⟩;refine ite2 (fun _=>?_) (fun _=>?_)
 ·refine⟨_,rfl,_,rfl,_,rfl,_,rfl,_,rfl,_,_,rfl,rfl,p,_,_,_,_,bD d,rfl,cd,t9.gs,(kr (Ae t9.c2 _)<|by lia),(kr (Ae t9.len _)<|by lia),(kr (Ae t9.k2 _)<|by lia),fun cA nA kA HA sA gA yA=>?_⟩;have tA:=t9.trans sA;refine⟨_,rfl,_,rfl,qa tA.gs (kr tA.len<|by lia) fun HB sB=>?_⟩;have LA:=zN (kr tA.len (show _<=15000 by lia));refine q _ _ _ _ ((tA.trans sB).more<|by lia) ⟨(all9.app gA.row).app<|AllG.one<|qA LA.1 LA.2,fun m=>?_,fun m h=>?_,fun m h=>?_,fun m ha hb'=>?_⟩ (Ty.choice y3 y6 yA s3.k1 s6.k1 sA.k1 hmem _ _ _ _).weak
  ·simp only[zS,qe,qc,hb.noLab,qd.noLab];exact la31 (g3.lab1 m) (g3.labI m) (g6.lab1 m) (g6.labI m) (gA.lab1 m) (gA.labI m) (zQ m k) (zQ m (k+1)) s3.k1 s6.k1
  ·simp only[zS,qe,qc,hb.noLab,qd.noLab] at h;exact la32 h (g3.labI m) (g6.labI m) (gA.labI m) (zQ m k) (zQ m (k+1)) s3.k1 s6.k1 sA.k1
  ·simp only[Z9,Qe,Zy,hb.use,qd.use] at h;simp only[zS,qe,qc,hb.noLab,qd.noLab];have:=g3.useI m;have:=g6.useI m;have:=gA.useI m
   lia
  ·simp only[zS,qe,qc,hb.noLab,qd.noLab];exact la34 ha hb' (g3.labA m) (g6.labA m) (gA.labA m) (zQ m k) (zQ m (k+1))
 ·refine⟨_,rfl,_,rfl,qa t9.gs (kr t9.len<|by lia) fun HB sB=>?_⟩;have LA:=zN (kr t9.len (show _<=15000 by lia));refine q _ _ _ _ ((t9.trans sB).more<|by lia) ⟨all9.app<|AllG.one<|qA LA.1 LA.2,fun m=>?_,fun m h=>?_,fun m h=>?_,fun m ha hb'=>?_⟩ (Ty.choice0 y3 y6 s3.k1 s6.k1 hmem _ _ _ _).weak
  ·simp only[zS,qe,qc,hb.noLab,qd.noLab];exact la31 (c:=0) (kc:=k6) (g3.lab1 m) (g3.labI m) (g6.lab1 m) (g6.labI m) (vj 1) (fun z=>vd rfl z) (zQ m k) (zQ m (k+1)) s3.k1 s6.k1
  ·simp only[zS,qe,qc,hb.noLab,qd.noLab] at h;exact la32 (c:=0) h (g3.labI m) (g6.labI m) (fun z=>vd rfl z) (zQ m k) (zQ m (k+1)) s3.k1 s6.k1 (kg _)
  ·simp only[Z9,Qe,Zy,hb.use,qd.use] at h;simp only[zS,qe,qc,hb.noLab,qd.noLab];have:=g3.useI m;have:=g6.useI m
   lia
  ·simp only[zS,qe,qc,hb.noLab,qd.noLab];exact la34 (c:=0) ha hb' (g3.labA m) (g6.labA m) (fun x y=>vd y<|Nat.not_lt.mpr x) (zQ m k) (zQ m (k+1))
def z9J:zj ["_law_script","_law_town_here","_law_rows","_law_marks","_law_deep","_law_begin","_law_end"] gps (zc<|top 107):=fsM
def z6W{n:Nat}(D:zn K mg "_law_round" (top 107))(S:jH P w K mg base)(FV:Fk P w K mg base)(FD:FN P w K mg base (10+2 * n) "_law_deed" gps (qw K (CD n) 0 false)):FN P w K mg base (11+2 * n) "_law_round" gps (qw K (CC n) 0 false):=by
 have:=FN.of (k:=10+2 * n) (sp:=qw K (CC n) 0 false) (P:=P) (w:=w) (base:=base) D z9J (fun _ _ _ _ _ _=>zU5 fun _ _ _ _ _=>rfl) jA (fun _ _ _ _ _ _ _ _ _ hr h=>?_)
 ·exact this.mono (by lia)
 obtain⟨p,c,rs,k,e,B,rfl,⟨d,he,hd,hB⟩,g,bc,br,bk,q⟩:=h;have hr1:=hr.mono (show 1<=10+2 * n by lia);have hr9:=hr.mono (show 9<=10+2 * n by lia);have bp:=z1y d;have cd:CD n (e - 1) (bD d):=⟨d,by lia,hd,rfl⟩
 refine⟨_,z6 (J0 (i:=5) (j:=6) rfl z9J.nd rfl rfl (by decide) rfl rfl (pa2 (zk S.mark hr1 rfl<|pa1<|pvX 3)<|zk S.mark hr1 rfl<|pa1<|pvX 3) rfl)
  (z6 (zi<|zB S.put3 hr1 rfl<|pa3 (pvX 2) zh<|pvX 5)
  (z6 (zi<|zk FV hr9 rfl<|zf (pvX 0)<|zf (pvX 1)<|pa3 (pvX 2) (pvX 3) zb)
  (z6 (zi<|zB S.put3 hr1 rfl<|pa3 (pvX 2) zh<|pvX 6)
  (z6 (zi<|zk FD hr rfl<|zf (pvX 0)<|zf (pvX 1)<|pa3 (pvX 2) (pvX 3)<|zE jh (pvX 4) zb)
  (z6 (zi<|zB S.put3 hr1 rfl<|pa3 (pvX 2) zh<|pvX 5)
  (z8<|zi<|zB S.put3 hr1 rfl<|pa3 (pvX 2) zh<|pvX 6)))))),?_⟩
 symm
 refine⟨_,rfl,z04 g (by lia) fun H1 s1=>?_⟩;refine⟨_,rfl,z04 s1.gs (kr s1.k2<|by lia) fun H2 s2=>?_⟩;refine⟨_,_,rfl,?_⟩;have t2:=s1.tick s2;refine⟨_,rfl,_,rfl,qa t2.gs (kr t2.len<|by lia) fun H3 s3=>?_⟩;have t3:=t2.trans s3;refine⟨_,rfl,_,rfl,_,rfl,_,rfl,p,_,_,_,_,31,rfl,cv1,t3.gs,(kr (Ae t3.c2 _)<|by lia),(kr (Ae t3.len _)<|by lia),(kr (Ae t3.k2 _)<|by lia),fun c4 n4 k4 H4 s4 g4 y4=>?_⟩;have t4:=t3.trans s4;refine⟨_,rfl,_,rfl,qa t4.gs (kr t4.len<|by lia) fun H5 s5=>?_⟩;have t5:=t4.trans s5;refine⟨_,rfl,_,rfl,_,rfl,_,rfl,_,rfl,_,_,rfl,rfl,p,_,_,_,_,bD d,rfl,cd,t5.gs,(kr (Ae t5.c2 _)<|by lia),(kr (Ae t5.len _)<|by lia),(kr (Ae t5.k2 _)<|by lia),fun c6 n6 k6 H6 s6 g6 y6=>?_⟩;have t6:=t5.trans s6;refine⟨_,rfl,_,rfl,qa t6.gs (kr t6.len<|by lia) fun H7 s7=>?_⟩;have t7:=t6.trans s7;refine⟨_,rfl,_,rfl,qa t7.gs (kr t7.len<|by lia) fun H8 s8=>?_⟩;have L2:=zN (kr t2.len (show _<=15000 by lia));have L4:=zN (kr t4.len (show _<=15000 by lia));have L6:=zN (kr t6.len (show _<=15000 by lia));have L7:=zN (kr t7.len (show _<=15000 by lia));refine q _ _ _ _ ((t7.trans s8).more<|by lia) ⟨((((((AllG.nil.app<|AllG.one<|qA L2.1 L2.2).app g4.row).app<|AllG.one<|z0G.rowG L4.1 L4.2).app g6.row).app<|AllG.one<|qd.rowG L6.1 L6.2).app<|AllG.one<|qA L7.1 L7.2),fun m=>?_,fun m h=>?_,fun m h=>?_,fun m ha hb'=>?_⟩ (Ty.round y4 y6 s4.k1 s6.k1 _ _ _ _).weak
 ·simp only[zS,qe,qc,z0G.noLab,qd.noLab];have:=g4.lab1 m;have:=g4.labI m;have:=g6.lab1 m;have:=g6.labI m;have:=zQ m k;have:=zQ m (k+1);have:=s4.k1
  lia
 ·simp only[zS,qe,qc,z0G.noLab,qd.noLab] at h;have:=g4.labI m;have:=g6.labI m;have:=zQ m k;have:=zQ m (k+1);have:=s4.k1;have:=s6.k1
  lia
 ·simp only[Z9,Qe,Zy,z0G.use,qd.use] at h;simp only[zS,qe,qc,z0G.noLab,qd.noLab];have:=g4.useI m;have:=g6.useI m
  lia
 ·simp only[zS,qe,qc,z0G.noLab,qd.noLab];have:=g4.labA m;have:=g6.labA m;have:=zQ m k;have:=zQ m (k+1)
  lia
def z9I:zj ["_law_script","_law_town_here","_law_rows","_law_marks","_law_deep","_law_hand","_law_end"] gps (zc<|top 108):=fsM
def z4n{v:V}(h:v∈([.str "drop",.str "tell",.str "raise"]:List V)):∃op,v=.str op/\Bare op .non/\op∈(["drop","tell","raise"]:List Str):=by
 rcases kE.mp h with e|h
 ·exact⟨_,e,z33,by simp⟩
 ·rcases kE.mp h with e|h
  ·exact⟨_,e,Zx,by simp⟩
  ·exact⟨_,ko.mp h,z5G,by simp⟩
def z6U{n:Nat}(D:zn K mg "_law_tried" (top 108))(S:jH P w K mg base)(FD:FN P w K mg base (10+2 * n) "_law_deed" gps (qw K (CD n) 0 false)):FN P w K mg base (11+2 * n) "_law_tried" gps (qw K (CC n) 0 false):=by
 have:=FN.of (k:=10+2 * n) (sp:=qw K (CC n) 0 false) (P:=P) (w:=w) (base:=base) D z9I (fun _ _ _ _ _ _=>zU5 fun _ _ _ _ _=>rfl) jA (fun f _ _ _ _ _ _ _ _ hr h=>?_)
 ·exact this.mono (by lia)
 obtain⟨p,c,rs,k,e,B,rfl,⟨d,he,hd,hB⟩,g,bc,br,bk,q⟩:=h;have hr1:=hr.mono (show 1<=10+2 * n by lia);have hr2:=hr.mono (show 2<=10+2 * n by lia);have bp:=z1y d;have cd:CD n (e - 1) (bD d):=⟨d,by lia,hd,rfl⟩
 have cd0:CD n 0 92:=⟨0,rfl,by lia,rfl⟩
 refine⟨_,z6 (J0 (i:=5) (j:=6) rfl z9I.nd rfl rfl (by decide) rfl rfl (pa2 (zk S.mark hr1 rfl<|pa1<|pvX 3)<|zk S.mark hr1 rfl<|pa1<|pvX 3) rfl)
  (z6 (zi<|zB S.put3 hr1 rfl<|pa3 (pvX 2) zh<|pvX 5)
  (z6 (zi<|zk FD hr rfl<|zf (pvX 0)<|zf (pvX 1)<|pa3 (pvX 2) (pvX 3)<|zE jh (pvX 4) zb)
  (z6 (zi<|zk FD hr rfl<|zf (pvX 0)<|zf (pvX 1)<|pa3 (pvX 2) (pvX 3) zb)
  (z6 (zi<|zB S.put2 hr1 rfl<|pa2 (pvX 2) zh)
  (z6 (zi<|zB S.put3 hr1 rfl<|pa3 (pvX 2) zh<|pvX 6)
  (z6 (zi<|zB S.put3 hr1 rfl<|pa3 (pvX 2) zh<|pvX 5)
  (z6 (zi<|zB S.put2 hr1 rfl<|pa2 (pvX 2)<|zk S.pick hr2 rfl<|pa3 (pvX 0) (pvX 1)<|zO<|pa3 zh zh zh)
  (z6 (zi<|zk FD hr rfl<|zf (pvX 0)<|zf (pvX 1)<|pa3 (pvX 2) (pvX 3) zb)
  (z8<|zi<|zB S.put3 hr1 rfl<|pa3 (pvX 2) zh<|pvX 6))))))))) ,?_⟩
 symm
 refine⟨_,rfl,z04 g (by lia) fun H1 s1=>?_⟩;refine⟨_,rfl,z04 s1.gs (kr s1.k2<|by lia) fun H2 s2=>?_⟩;refine⟨_,_,rfl,?_⟩;have t2:=s1.tick s2;refine⟨_,rfl,_,rfl,qa t2.gs (kr t2.len<|by lia) fun H3 s3=>?_⟩;have t3:=t2.trans s3;refine⟨_,rfl,_,rfl,_,rfl,_,rfl,_,rfl,_,_,rfl,rfl,p,_,_,_,_,bD d,rfl,cd,t3.gs,(kr (Ae t3.c2 _)<|by lia),(kr (Ae t3.len _)<|by lia),(kr (Ae t3.k2 _)<|by lia),fun c4 n4 k4 H4 s4 g4 y4=>?_⟩;have t4:=t3.trans s4;refine⟨_,rfl,_,rfl,_,rfl,_,rfl,p,_,_,_,_,92,rfl,cd0,t4.gs,(kr (Ae t4.c2 _)<|by lia),(kr (Ae t4.len _)<|by lia),(kr (Ae t4.k2 _)<|by lia),fun c5 n5 k5 H5 s5 g5 y5=>?_⟩;have t5:=t4.trans s5;refine⟨_,rfl,qa t5.gs (kr t5.len<|by lia) fun H6 s6=>?_⟩;have t6:=t5.trans s6;refine⟨_,rfl,_,rfl,qa t6.gs (kr t6.len<|by lia) fun H7 s7=>?_⟩;have t7:=t6.trans s7;refine⟨_,rfl,_,rfl,qa t7.gs (kr t7.len<|by lia) fun H8 s8=>?_⟩;have t8:=t7.trans s8;refine⟨_,rfl,_,rfl,_,rfl,vX,fun x hx=>?_⟩;refine qW t8.gs (kr t8.c2<|by lia) hx (by show 1<=3;decide) (by show 3<=1000;decide) fun v H9 hv s9=>?_
 obtain⟨op,rfl,hb,hmem⟩:=z4n hv;have t9:=t8.tick s9;refine qa t9.gs (kr t9.len<|by lia) fun HA sA=>?_
 have tA:=t9.trans sA;refine⟨_,rfl,_,rfl,_,rfl,_,rfl,p,_,_,_,_,92,rfl,cd0,tA.gs,(kr (Ae tA.c2 _)<|by lia),(kr (Ae tA.len _)<|by lia),(kr (Ae tA.k2 _)<|by lia),fun cB nB kB HB sB gB yB=>?_⟩;have tB:=tA.trans sB;refine⟨_,rfl,_,rfl,qa tB.gs (kr tB.len<|by lia) fun HC sC=>?_⟩;have L2:=zN (kr t2.len (show _<=15000 by lia));have L5:=zN (kr t5.len (show _<=15000 by lia));have L6:=zN (kr t6.len (show _<=15000 by lia));have L7:=zN (kr t7.len (show _<=15000 by lia));have L9:=zN (kr t9.len (show _<=15000 by lia));have LB:=zN (kr tB.len (show _<=15000 by lia));refine q _ _ _ _ ((tB.trans sC).more<|by lia) ⟨(((((((((AllG.nil.app<|AllG.one<|QB.rowG L2.1 L2.2).app g4.row).app g5.row).app<|AllG.one<|QG.rowG L5.1 L5.2).app<|AllG.one<|qd.rowG L6.1 L6.2).app<|AllG.one<|qA L7.1 L7.2).app<|AllG.one<|hb.rowG L9.1 L9.2).app gB.row).app<|AllG.one<|qA LB.1 LB.2),fun m=>?_,fun m h=>?_,fun m h=>?_,fun m ha hb'=>?_⟩ (by
  have yy:=fun a b c e f g=>(Ty.tried (y4.app y5 s4.k1 s5.k1<|by decide) yB (kr s4.k1 s5.k1) sB.k1 hmem a b c e f g).weak
  simp only[<-kX] at yy;exact yy _ _ _ _ _ _)
 ·simp only[zS,qe,qc,QB.noLab,qd.noLab,QG.noLab,hb.noLab];exact la31 (g4.lab1 m) (g4.labI m) (g5.lab1 m) (g5.labI m) (gB.lab1 m) (gB.labI m) (zQ m k) (zQ m (k+1)) s4.k1 s5.k1
 ·simp only[zS,qe,qc,QB.noLab,qd.noLab,QG.noLab,hb.noLab] at h;exact la32 h (g4.labI m) (g5.labI m) (gB.labI m) (zQ m k) (zQ m (k+1)) s4.k1 s5.k1 sB.k1
 ·simp only[Z9,Qe,Zy,QB.use,qd.use,QG.noUse,hb.noUse] at h;simp only[zS,qe,qc,QB.noLab,qd.noLab,QG.noLab,hb.noLab];have:=g4.useI m;have:=g5.useI m;have:=gB.useI m
  lia
 ·simp only[zS,qe,qc,QB.noLab,qd.noLab,QG.noLab,hb.noLab];exact la34 ha hb' (g4.labA m) (g5.labA m) (gB.labA m) (zQ m k) (zQ m (k+1))
end
section
def z9L:zj ["_law_script","_law_town_here","_law_rows","_law_marks","_law_deep","_law_way"] gps (zc<|top 105):=fsM
def z91{n:Nat}(D:zn K mg "_law_deed" (top 105))(S:jH P w K mg base)(FV:Fk P w K mg base)(FC:FN P w K mg base (11+2 * n) "_law_choice" gps (qw K (CC n) 0 false))(FR:FN P w K mg base (11+2 * n) "_law_round" gps (qw K (CC n) 0 false))(FT:FN P w K mg base (11+2 * n) "_law_tried" gps (qw K (CC n) 0 false)):FN P w K mg base (10+2 * (n+1)) "_law_deed" gps (qw K (CD (n+1)) 0 false):=by
 have:=FN.of (k:=11+2 * n) (sp:=qw K (CD (n+1)) 0 false) (P:=P) (w:=w) (base:=base) D z9L (fun _ _ _ _ _ _=>zU5 fun _ _ _ _ _=>rfl) jA (fun _ _ _ _ _ _ _ _ _ hr h=>?_)
 ·exact this.mono (by lia)
 obtain⟨p,c,rs,k,e,B,rfl,⟨d,he,hd,hB⟩,g,bc,br,bk,q⟩:=h;have hr1:=hr.mono (show 1<=11+2 * n by lia);have hr2:=hr.mono (show 2<=11+2 * n by lia);have hr9:=hr.mono (show 9<=11+2 * n by lia);have hb3:=z1y d;refine⟨_,z6 (zM 5 z9L.nd<|j9 (zo J6 (pvX 4) zb<|zy _) (zk S.draw hr1 rfl<|pa3 (pvX 0) (pvX 1) zb)<|zk S.draw hr1 rfl<|pa3 (pvX 0) (pvX 1) zb)
  (z8 (zV (zo z0f (pvX 5) zb<|zy _)
   (z6 (zi<|zk FV hr9 rfl<|zf (pvX 0)<|zf (pvX 1)<|pa3 (pvX 2) (pvX 3) zb)
    (z8<|zi<|zB S.put3 hr1 rfl<|pa3 (pvX 2) zh<|zk S.pick hr2 rfl<|pa3 (pvX 0) (pvX 1)<|zO<|pa3 zh zh zh))
  (z8 (zV (zo qX (pvX 5) zb<|zy _)
   (z6 (zi<|zk FV hr9 rfl<|zf (pvX 0)<|zf (pvX 1)<|pa3 (pvX 2) (pvX 3) zb)
    (z8<|zi<|zB S.put2 hr1 rfl<|pa2 (pvX 2) zh))
  (z8 (zV (zo qX (pvX 5) zb<|zy _)
   (z8<|zi<|zB S.put3 hr1 rfl<|pa3 (pvX 2) zh<|zk S.pick hr2 rfl<|pa3 (pvX 0) (pvX 1)<|zO<|pa2 zh zh)
  (z8 (zV (zo z0f (pvX 5) zb<|zy _)
   (z8<|zi<|zk FC hr rfl<|zf (pvX 0)<|zf (pvX 1)<|pa3 (pvX 2) (pvX 3)<|pvX 4)
  (z8 (zV (zo z0f (pvX 5) zb<|zy _)
   (z8<|zi<|zk FR hr rfl<|zf (pvX 0)<|zf (pvX 1)<|pa3 (pvX 2) (pvX 3)<|pvX 4)
  (z8 (zV (zo qX (pvX 5) zb<|zy _)
   (z8<|zi<|zk FT hr rfl<|zf (pvX 0)<|zf (pvX 1)<|pa3 (pvX 2) (pvX 3)<|pvX 4)
   (z6 (zi<|zk FV hr9 rfl<|zf (pvX 0)<|zf (pvX 1)<|pa3 (pvX 2) (pvX 3) zb)
    (z8<|zi<|zB S.put2 hr1 rfl<|pa2 (pvX 2) zh)))))))))))))) ,?_⟩
 symm
 refine⟨_,rfl,_,_,rfl,rfl,_,rfl,?_⟩;refine ite2 (fun c0=>?_) (fun c0=>?_);all_goals
  refine⟨_,rfl,_,rfl,jC g (by lia) (by decide) (by decide) fun i H1 i0 i1 s1=>?_⟩;have i12:i < 10:=by lia
  have i4:e<=0->i < 4:=fun z=>by
   first
   |exact i1
   |(have:=kD c0;lia)
  have l1:=s1.len;refine⟨_,rfl,_,_,rfl,rfl,_,rfl,?_⟩;refine ite2 (fun c1=>?_) (fun c1=>?_)
  ·refine⟨_,rfl,_,rfl,_,rfl,_,rfl,p,_,_,_,_,31,rfl,cv1,s1.gs,(by have:=s1.c2;lia),(by lia),(by have:=s1.k2;lia),fun c4 n4 k4 H4 s4 g4 y4=>?_⟩;have t4:=s1.trans s4;refine⟨_,rfl,_,rfl,_,rfl,vX,fun x hx=>?_⟩;refine qW t4.gs (kr t4.c2<|by lia) hx (by show 1<=3;decide) (by show 3<=1000;decide) fun v H5 hv s5=>?_
   have t5:=t4.tick s5;refine qa t5.gs (kr t5.len<|by lia) fun H6 s6=>?_
   have L:=zN (kr t5.len (show _<=15000 by lia));exact q _ _ _ _ ((t5.trans s6).more<|by lia) (((Good.nil k).app g4 (kg _) s4.k1).put t4.k1 (z9g hv) L.1 L.2) ((y4.row (js _<|by simp) (by decide) _ _).cast<|by decide).weak
  ·refine⟨_,rfl,rfl,_,rfl,?_⟩;refine ite2 (fun c2=>?_) (fun c2=>?_)
   ·refine⟨_,rfl,_,rfl,_,rfl,_,rfl,p,_,_,_,_,87,rfl,cv2,s1.gs,(by have:=s1.c2;lia),(by lia),(by have:=s1.k2;lia),fun c4 n4 k4 H4 s4 g4 y4=>?_⟩;have t4:=s1.trans s4;refine⟨_,rfl,qa t4.gs (kr t4.len<|by lia) fun H6 s6=>?_⟩;have L:=zN (kr t4.len (show _<=15000 by lia));exact q _ _ _ _ ((t4.trans s6).more<|by lia) (((Good.nil k).app g4 (kg _) s4.k1).put t4.k1 Zx L.1 L.2) ((y4.row (js _<|by simp) (by decide) _ _).cast<|by decide).weak
   ·refine⟨_,rfl,rfl,_,rfl,?_⟩;refine ite2 (fun c3=>?_) (fun c3=>?_)
    ·refine⟨_,rfl,_,rfl,_,rfl,vX,fun x hx=>?_⟩;refine qW s1.gs (kr s1.c2<|by lia) hx (by show 1<=2;decide) (by show 2<=1000;decide) fun v H5 hv s5=>?_
     have t5:=s1.tick s5;refine qa t5.gs (kr t5.len<|by lia) fun H6 s6=>?_
     have L:=zN (kr t5.len (show _<=15000 by lia));exact q _ _ _ _ ((t5.trans s6).more<|by lia) ((Good.nil k).put (kg _) (z9h hv) L.1 L.2) (((Ty.nil k).row z64 (by decide) _ _).cast<|by decide).weak
    ·have d1:¬i < 2:=fun z=>c1 (kj z)
     have d2:¬i=2:=fun z=>c2 (by rw[z];rfl)
     have d3:¬i=3:=fun z=>c3 (by rw[z];rfl)
     have e0:¬e<=0:=fun z=>by have:=i4 z;lia
     obtain⟨d',rfl⟩:∃d',d=d'+1:=⟨d - 1,by lia⟩
     have eB:bD (d'+1)=2 * bD d'+200:=rfl;have cc:CC n e (2 * bD d'+150):=⟨d',by lia,by lia,rfl⟩
     refine⟨_,rfl,_,_,rfl,rfl,_,rfl,?_⟩;refine ite2 (fun c4=>?_) (fun c4=>?_)
     ·refine⟨_,rfl,_,rfl,_,rfl,_,rfl,_,rfl,p,_,_,_,_,_,rfl,cc,s1.gs,(by have:=s1.c2;lia),(by lia),(by have:=s1.k2;lia),fun c4 n4 k4 H4 s4 g4 y4=>?_⟩;exact q _ _ _ _ ((s1.trans s4).more<|by lia) ((Good.nil k).app g4 (kg _) s4.k1) y4
     ·refine⟨_,rfl,_,_,rfl,rfl,_,rfl,?_⟩;refine ite2 (fun c5=>?_) (fun c5=>?_)
      ·refine⟨_,rfl,_,rfl,_,rfl,_,rfl,_,rfl,p,_,_,_,_,_,rfl,cc,s1.gs,(by have:=s1.c2;lia),(by lia),(by have:=s1.k2;lia),fun c4 n4 k4 H4 s4 g4 y4=>?_⟩;exact q _ _ _ _ ((s1.trans s4).more<|by lia) ((Good.nil k).app g4 (kg _) s4.k1) y4
      ·refine⟨_,rfl,rfl,_,rfl,?_⟩;refine ite2 (fun c6=>?_) (fun c6=>?_)
       ·refine⟨_,rfl,_,rfl,_,rfl,_,rfl,_,rfl,p,_,_,_,_,_,rfl,cc,s1.gs,(by have:=s1.c2;lia),(by lia),(by have:=s1.k2;lia),fun c4 n4 k4 H4 s4 g4 y4=>?_⟩;exact q _ _ _ _ ((s1.trans s4).more<|by lia) ((Good.nil k).app g4 (kg _) s4.k1) y4
       ·refine⟨_,rfl,_,rfl,_,rfl,_,rfl,p,_,_,_,_,3,rfl,cv0,s1.gs,(by have:=s1.c2;lia),(by lia),(by have:=s1.k2;lia),fun c4 n4 k4 H4 s4 g4 y4=>?_⟩;have t4:=s1.trans s4;refine⟨_,rfl,qa t4.gs (kr t4.len<|by lia) fun H6 s6=>?_⟩;have L:=zN (kr t4.len (show _<=15000 by lia));exact q _ _ _ _ ((t4.trans s6).more<|by lia) (((Good.nil k).app g4 (kg _) s4.k1).put t4.k1 z5G L.1 L.2) (Ty.rais y4 _)
def z0w{k:Nat}{rs:List Row}(h:∃Γl:Int->Option Sta,∀Γ,Ext Γ Γl 0 k->chk Γ rs (some (0,[]))=some none):∃Γ:Int->Option Sta,(∀m,Γ m≠none->0<=m/\m < (k:Int))/\chk Γ rs (some (0,[]))=some none:=by
 obtain⟨Γl,q⟩:=h;refine⟨fun m=>if 0<=m/\m < (k:Int) then Γl m else none,fun m hm=>?_,q _ fun m _ hm=>kz ⟨by lia,by lia⟩⟩;by_cases z:0<=m/\m < (k:Int)
 ·exact z
 ·exact vd (ky z) hm
def z3P:∃Γ:Int->Option Sta,(∀m,Γ m≠none->0<=m/\m < ((0:Nat):Int))/\chk Γ [⟨"load",.str "a",7⟩,⟨"return",.non,8⟩] (some (0,[]))=some none:=
 z0w ((Ty.nil 0).whole (((Ty.nil 0).row z1U (by decide) (.str "a") 7).cast<|by decide) (kg _) (kg _) 8<|by decide)
def z2S(DD:zn K mg "_law_deed" (top 105))(DC:zn K mg "_law_choice" (top 106))(DR:zn K mg "_law_round" (top 107))(DT:zn K mg "_law_tried" (top 108))(S:jH P w K mg base)(FV:Fk P w K mg base):
  ∀n,FN P w K mg base (10+2 * n) "_law_deed" gps (qw K (CD n) 0 false)
|0=>z2Q DD (fun _ _ _ _ _ _=>zU5 fun _ _ _ _ _=>rfl) fun e B ⟨d,_,h,_⟩=>vd h (Nat.not_lt_zero _)
|n+1=>by
  have ih:=z2S DD DC DR DT S FV n;exact z91 DD S FV (z5h DC S FV ih) (z6W DR S FV ih) (z6U DT S ih)
inductive ZN(K:ku)(vs:List V)(H:Hp)(Q:VK)(E:XK):Prop
|mk (a t:Aa) (ns:List Int) (c:Nat) (cells:List Int) (many:Int):vs=[.ref a,.ref t,.int many]->Scr K H a (ns.map V.int)->ns.length<=1000->cells.length=ns.length->H t=some (.lst<|qM c cells)->c<=20000->1<=many->many<=12->(∀(l:Aa)(as:List Aa)(rs:List Row)(k c':Nat)(cells':List Int) H',H' l=some (.lst<|as.map V.ref)->zI H' as rs->Good 0 k rs->(∃Γ:Int->Option Sta,(∀m,Γ m≠none->0<=m/\m < (k:Int))/\chk Γ rs (some (0,[]))=some none)->k<=90->1<=rs.length->rs.length<=140->l≠t->cells'.length=ns.length->H' t=some (.lst<|qM c' cells')->c'<=c+13900->Zk H H' t->Q (.ref l) H')->ZN K vs H Q E
def z61:zj ["_law_script","_law_town_here","_law_many","_law_rows","_law_marks","_law_k"] ["_law_script","_law_town_here","_law_many"] (zc<|top 109):=fsM
def cd2:CD 3 2 968:=⟨2,rfl,by decide,rfl⟩
def z3F(D:zn K mg "_law_code" (top 109))(G:Glo mg)(S:jH P w K mg base)(FV:Fk P w K mg base)(FD:FN P w K mg base 16 "_law_deed" gps (qw K (CD 3) 0 false)):FN P w K mg base 17 "_law_code" Ve (ZN K):=by
 refine FN.o D z61 ?_;rintro _ _ _ _ _ H _ Q _ hr ⟨a,t,ns,c,cells,many,rfl,hS,hns,hcl,hT,hc,hm1,hm2,q⟩;have hr1:=hr.mono (vW:1<=16);have hr9:=hr.mono (vW:9<=16);refine⟨_,z6 (zM 3 z61.nd<|zO qC)
  (z6 (zM 4 z61.nd<|zO qC)
  (z6 (qQ vo rfl (qB rfl G.range<|pa1<|zE qT zb<|zk S.draw hr1 rfl<|pa3 (pvX 0) (pvX 1)<|pvX 2) (zL 5 z61.nd)
   (z8 (zV (zo z0f (zq zr rfl G.len zK<|pa1<|pvX 3) zb<|zy _)
    (z8<|zi<|zk FD hr rfl<|zf (pvX 0)<|zf (pvX 1)<|pa3 (pvX 3) (pvX 4) zb) zC)))
  (z6 (zi<|zk FV hr9 rfl<|zf (pvX 0)<|zf (pvX 1)<|pa3 (pvX 3) (pvX 4) zb)
  (z6 (zi<|zB S.put2 hr1 rfl<|pa2 (pvX 3) zh)
  (z6 (zV (PW.pt<|QZ (zo J6 (zq zr rfl G.len zK<|pa1<|pvX 3) zb<|zy _)<|Zu<|zo J6 (zq zr rfl G.len zK<|pa1<|pvX 4) zb<|zy _)
   (z8<|zl<|zO<|pa2 (zY<|pa3 zh zh zb)<|zY<|pa3 zh qR zb) zC)
  (z8<|zl<|pvX 3)))))),?_⟩
 symm
 refine⟨vX,fun r hr0=>⟨vX,fun m hm0=>?_⟩⟩;have sr:Same H (upd H r<|.lst []):=ze hr0 _;have sm:Same (upd H r<|.lst []) (upd (upd H r<|.lst []) m<|.lst []):=ze hm0 _;have rm:r≠m:=zd (H:=upd H r (.lst [])) z7 hm0;have tr:t≠r:=zd hT hr0;have tm:t≠m:=zd (sr _ _ hT) hm0;have s02:=sr.trans sm;generalize hH2:upd (upd H r<|.lst []) m (.lst [])=H2 at *;have hr2:H2 r=some (.lst []):=by rw[<-hH2,zg rm];exact z7
 have hm2':H2 m=some (.lst []):=by rw[<-hH2];exact z7
 have g:GS K H2 ⟨a,t,r,m,ns⟩ c [] 0:=⟨hS.keep fun o u e=>s02 _ _ e,hns,⟨cells,hcl,s02 _ _ hT⟩,⟨[],hr2,.nil⟩,hm2',tr,tm,rm⟩
 generalize hp:(⟨a,t,r,m,ns⟩:Pl)=p at *;have pa:p.a=a:=by rw[<-hp]
 have pt:p.t=t:=by rw[<-hp]
 have pr:p.r=r:=by rw[<-hp]
 have pm:p.m=m:=by rw[<-hp]
 have pn:p.ns=ns:=by rw[<-hp]
 subst pa pt pr pm pn;clear hp;refine⟨_,rfl,_,rfl,_,rfl,jC g (by lia) (by lia) (by lia) fun j H3 j0 j1 s3=>?_⟩;refine⟨_,_,rfl,rfl,1+j,rfl,by lia,by lia,qJ (lo:=0) (n:=(1+j).toNat) (fun i σ H4=>∃v c' new k',σ=[some<|.ref p.a,some<|.ref p.t,some<|.int many,some<|.ref p.r,some<|.ref p.m,v]/\Step K H2 H4 p c [] 0 c' new k' (1+968 * i)/\Good 0 k' new/\Ty 0 false 0 k' new)
  ⟨none,_,_,_,rfl,s3,Good.nil 0,(Ty.nil 0).weak⟩ ?_ ?_⟩
 ·rintro i σ H4 hi ⟨v,c',new,k',rfl,st,gd,ty⟩;have hin:i < 12:=by lia
  have l:=st.len;obtain⟨as,h3,h4⟩:=st.gs.rows;refine⟨_,rfl,p.r,_,rfl,.inl<|SqL.of h3,_,_,rfl,rfl,_,rfl,?_⟩;refine ite2 (fun c4=>?_) (fun c4=>?_)
  ·refine⟨_,rfl,_,rfl,_,rfl,_,rfl,p,_,_,_,_,968,rfl,cd2,st.gs,(by have:=st.c2;lia),(by simp at l ⊢;lia),(by have:=st.k2;lia),fun c5 n5 k5 H5 s5 g5 y5=>?_⟩;exact⟨_,c5,new++n5,k5,rfl,(st.trans s5).more (by lia),gd.app g5 (vj _) s5.k1,(ty.app y5 (vj _) s5.k1<|by decide).cast<|by decide⟩
  ·exact⟨_,c',new,k',rfl,st.more (by lia),gd,ty⟩
 rintro σ H4 ⟨v4,c4,n4,k4,rfl,t4,g4,y4⟩;have t4:=t4.more (show _<=11617 by lia);refine⟨_,rfl,_,rfl,_,rfl,_,rfl,p,_,_,_,_,31,rfl,cv1,t4.gs,(by have:=t4.c2;lia),(by have:=t4.len;simp at this ⊢;lia),(by have:=t4.k2;lia),fun c5 n5 k5 H5 s5 g5 y5=>?_⟩;have t5:=t4.trans s5;refine⟨_,rfl,qa t5.gs (by have:=t5.len;simp at this ⊢;lia) fun H6 s6=>?_⟩;have t6:=t5.trans s6;have L5:=zN (kr t5.len (show _<=15000 by simp));have g6:=(g4.app g5 (vj _) s5.k1).put (vj _) QP L5.1 L5.2;have cK:n4.length+n5.length<=998->∃Γ:Int->Option Sta,(∀m,Γ m≠none->0<=m/\m < (k5:Int))/\chk Γ (n4++n5++[(⟨Str.ofString "return",.non,10+(([]++(n4++n5):List Row).length:Int) / 2⟩:Row)]) (some (0,[]))=some none:=fun hz=>z0w (y4.whole y5 (vj _) s5.k1 _ hz)
 have hlen:(n4++n5++[(⟨Str.ofString "return",.non,10+(([]++(n4++n5):List Row).length:Int) / 2⟩:Row)]).length=n4.length+n5.length+1:=by rw[km,km];rfl
 generalize hn:n4++n5++[(⟨Str.ofString "return",.non,10+(([]++(n4++n5):List Row).length:Int) / 2⟩:Row)]=nn at *;have hpos:1<=nn.length:=by rw[<-hn];simp only[km,kP,List.length_nil,kG];lia
 obtain⟨as,h3,h4⟩:=t6.gs.rows;have hal:(as.map V.ref).length=nn.length:=by rw[kl,h4.len];rfl
 obtain⟨cells',hl',hT'⟩:=t6.gs.town;have hc6:=t6.c2;have kp:Zk H H6 p.t:=fun b o e hb=>t6.keep b o (s02 _ _ e) hb (zd e hr0) (fun z=>by
  have:=sr _ _ e
  rw[z,hm0] at this;cases this)
 have two:∀H7,Same H6 H7->∀x y l,H7 x=some (.tup [.str "load",.str "a",.int 7])->H7 y=some (.tup [.str "return",.non,.int 8])->H7 l=some (.lst [.ref x,.ref y])->l≠p.t->Q (.ref l) H7:=fun H7 s7 x y l hx hy hl hlt=>by
  have b1:Bare "load" (.str "a"):=z1x (by simp);refine q l [x,y] [⟨"load",.str "a",7⟩,⟨"return",.non,8⟩] 0 _ cells' H7 hl (.cons hx<|.cons hy .nil) ?_ z3P (by decide) (by simp) (by simp) hlt hl' (s7 _ _ hT') (by lia) fun b o e hb=>s7 _ _ (kp b o e hb)
  exact (b1.good (by decide) (by decide) 0).put (kg _) QP (by decide) (by decide)
 have fin:nn.length<=140->k5<=90->Q (.ref p.r) H6:=fun h1 h2=>q p.r as nn k5 _ cells' H6 h3 h4 g6 (cK<|by lia) h2 hpos h1 g.tr.symm hl' hT' (by lia) kp
 refine⟨_,rfl,p.r,_,rfl,.inl<|SqL.of h3,_,_,rfl,rfl,_,rfl,?_⟩;have short:tTup (jg (tC<|.str "load")<|jg (tC<|.str "a")<|jg (tC<|.int 7) tNil) [some<|.ref p.a,some<|.ref p.t,some<|.int many,some<|.ref p.r,some<|.ref p.m,v4] H6 (fun x H7=>tTup (jg (tC<|.str "return")<|jg (tC .non)<|jg (tC<|.int 8) tNil) [some<|.ref p.a,some<|.ref p.t,some<|.int many,some<|.ref p.r,some<|.ref p.m,v4] H7 fun y H8=>[x,y].length<=sizeLine/\∀l,H8 l=none->Q (.ref l) (upd H8 l<|.lst [x,y])):=by
  refine⟨vX,fun x hx=>⟨vX,fun y hy=>⟨vX,fun l hl=>?_⟩⟩⟩;have sx:Same H6 (upd H6 x<|.tup [.str "load",.str "a",.int 7]):=ze hx _;have sy:=ze hy (.tup [.str "return",.non,.int 8]);have sl:=ze hl (.lst [.ref x,.ref y]);refine two _ (sx.trans<|sy.trans sl) x y l (sl _ _<|sy _ _ z7) (sl _ _ z7) z7 ?_;exact (zd (sy _ _<|sx _ _ hT') hl).symm
 refine ite2 (fun c1=>?_) (fun c1=>?_)
 ·exact iteT short
 ·have hn1:nn.length<=140:=by
   rw[hal] at c1;have:¬((140:Int) < (nn.length:Int)):=fun z=>c1 (kj z)
   lia
  refine⟨_,rfl,p.m,_,rfl,.inl<|SqL.of t6.gs.marks,_,_,rfl,rfl,_,rfl,?_⟩;refine ite2 (fun c2=>short) (fun c2=>?_);rw[Zn] at c2;have hk:k5<=90:=by
   have:¬((90:Int) < (k5:Int)):=fun z=>c2 (kj z)
   lia
  exact⟨_,rfl,fin hn1 hk⟩
end
set_option autoImplicit false
set_option linter.unusedVariables false
def Z5{p:Row->Bool}:∀(l:List Row)(i:Nat)(r:Row),l[i]?=some r->p r=true->l.countP p<=1->l.findIdx? p=some i
|[],_,_,h,_,_=>by simp at h
|x::l,0,r,h,hp,_=>by
  have e:x=r:=by simpa using h
  rw[List.findIdx?_cons,e,kz hp]
|x::l,i+1,r,h,hp,hc=>by
  have h':l[i]?=some r:=by simpa using h
  have hm:=kH h';have hpos:0 < l.countP p:=List.countP_pos_iff.mpr ⟨r,hm,hp⟩;rw[Aj] at hc;have hx:¬p x=true:=fun e=>by rw[kz e] at hc;lia
  rw[ky hx] at hc;rw[List.findIdx?_cons,ky hx,Z5 l i r h' hp hc];rfl
def jU{p:Row->Bool}{l:List Row}(h:l.countP p≠0):(l.findIdx? p).isSome=true:=by
 rw[List.findIdx?_isSome,List.any_eq_true];have:0 < l.countP p:=by lia
 obtain⟨r,h1,h2⟩:=List.countP_pos_iff.mp this;exact⟨r,h1,h2⟩
def Good.mark{k:Nat}{rs:List Row}(g:Good 0 k rs){r:Row}(hr:r∈rs)(hs:zx r.op=some ("mark":Str)){m:Nat}(hm:r.arg=.int (m:Int)):lab m rs≠0:=by
 by_cases c:r.op="label"
 ·have:0 < rs.countP (ZE m):=List.countP_pos_iff.mpr ⟨r,hr,by unfold ZE;rw[kj c,kj hm];rfl⟩
  unfold lab;lia
 ·refine g.useI m ?_;have:0 < rs.countP (z0s m):=List.countP_pos_iff.mpr ⟨r,hr,by unfold z0s;rw[kj hs,kj c,kj hm];rfl⟩
  unfold use;lia
def Good.typed{k:Nat}{rs:List Row}(g:Good 0 k rs)(h:∃Γ:Int->Option Sta,(∀m,Γ m≠none->0<=m/\m < (k:Int))/\chk Γ rs (some (0,[]))=some none):∃S,z5J rs S:=by
 obtain⟨Γ,h1,h2⟩:=h;refine⟨_,z2j (fun m s e=>?_) h2⟩;obtain⟨a,b⟩:=h1 m (by rw[e];nofun);obtain⟨j,rfl⟩:=kZ a;exact jU (g.labA j (vj _)<|by lia)
def Good.code{k:Nat}{rs:List Row}(g:Good 0 k rs)(hk:k<=90)(h1:1<=rs.length)(h2:rs.length<=150):Code rs:=by
 refine⟨fun r hr=>?_,fun i r hi=>?_,h1,h2⟩
 ·obtain⟨s,hs,l0,l1,_,h⟩:=g.row r hr;have hf:qk s r.arg=true:=by
   rcases h with ⟨rfl,m,hm⟩|⟨_,hf⟩
   ·have:=(g.labI m<|g.mark hr hs hm).2
    rw[hm];exact ZF (lo:=0) (hi:=99) (fun x=>by rfl) (by lia) (by lia)
   ·exact hf
  show rowV r.op r.arg (.int r.line)=true;unfold rowV Zh;rw[hs];show (true&&qk s r.arg&&zW (.int r.line) 0 9999)=true;rw[hf];show zW (.int r.line) 0 9999=true;show (decide (0<=r.line)&&decide (r.line<=9999))=true;rw[kj l0,kj l1];rfl
 ·have hr:=kH hi;obtain⟨s,hs,l0,l1,_,h⟩:=g.row r hr;unfold jF;by_cases c:r.op="label"
  ·rw[kz c];have e:s="mark":=by
    rw[c,j4] at hs;exact (kC hs).symm
   rcases h with ⟨_,m,hm⟩|⟨hn,_⟩
   ·rw[hm];show decide (zA rs (m:Int)=some i)=true;exact kj (Z5 rs i r hi (by show (decide (r.op="label")&&decide (r.arg=.int (m:Int)))=true;rw[kj c,kj hm];rfl)<|g.lab1 m)
   ·exact vd e hn
  ·rw[ky c];by_cases c2:zx r.op=some ("mark":Str)
   ·rw[kz c2];have e:s="mark":=by
     rw[c2] at hs;exact (kC hs).symm
    rcases h with ⟨_,m,hm⟩|⟨hn,_⟩
    ·rw[hm];exact jU (g.mark hr c2 hm)
    ·exact vd e hn
   ·rw[ky c2]
section
inductive z2n(K:ku)(vs:List V)(H:Hp)(Q:VK)(E:XK):Prop
|mk (a:Aa) (ns:List Int):vs=[.ref a]->Scr K H a (ns.map V.int)->ns.length<=1000->(∀t H',Same H H'->H t=none->H' t=some (.lst<|qM 0 ns)->Q (.ref t) H')->z2n K vs H Q E
def sc96:zj ["_law_script"] ["_law_script"] (zc<|top 96):=fsM
def z8E(D:zn K mg "_law_town" (top 96))(G:Glo mg):FN P w K mg base 1 "_law_town" ["_law_script"] (z2n K):=by
 refine FN.o D sc96 ?_;rintro _ _ _ _ _ H _ _ _ _ ⟨a,ns,rfl,hS,hn,q⟩;refine⟨_,z8<|zl<|zE Zv (zO<|pa1 zb)<|ja Qz rfl G.list Jn<|pa1<|pvX 0,?_⟩
 symm
 refine⟨vX,fun p hp=>?_⟩;have sp:=ze hp (.lst [.int 0]);refine⟨_,rfl,a,ns.map V.int,rfl,.inl (hS.keep fun o u e=>sp _ _ e).sq,fun l hl=>?_⟩;have sl:=ze hl (.lst<|ns.map V.int);have npl:p≠l:=zd (H:=upd H p (.lst [.int 0])) z7 hl;refine⟨p,l,[.int 0],ns.map V.int,rfl,rfl,sl _ _ z7,z7,?_,fun t ht=>?_⟩
 ·rw[kl,sizeLine_eq];show 1+ns.length<=_;lia
 ·have st:=ze ht (.lst ([.int 0]++ns.map V.int));refine q t _ ((sp.trans sl).trans st) ?_ z7;cases e:H t with
 |none=>rfl
 |some o=>rw[(sp.trans sl) _ _ e] at ht;cases ht
end
def z7z:∀op∈(["iftrue","iffalse"]:List Str),Uses op:=by
 intro op h;rcases kE.mp h with z|z
 ·rw[z];exact z9n
 ·rw[ko.mp z];exact z0G
def z7y:∀op∈(["ortrue","orfalse"]:List Str),Uses op:=by
 intro op h;rcases kE.mp h with z|z
 ·rw[z];exact z9l
 ·rw[ko.mp z];exact z9m
def z09{v:V}{a b:Str}(h:v∈([.str a,.str b]:List V)):∃op,v=.str op/\op∈[a,b]:=by
 rcases kE.mp h with z|z
 ·exact⟨a,z,by simp⟩
 ·exact⟨b,ko.mp z,by simp⟩
noncomputable def hops(k:Nat)(o1 o2 o3 o4:Str)(x:V)(l:Nat->Int):List Row:=
 [⟨"load",.str "b",l 0⟩]++[⟨o1,.int ((k+4:Nat):Int),l 1⟩]++[⟨"label",.int ((k+4:Nat):Int),l 2⟩]++[⟨"load",.str "a",l 3⟩]++[⟨o2,.int (k:Int),l 4⟩]++[⟨"load",.str "b",l 5⟩]++[⟨"label",.int (k:Int),l 6⟩]++[⟨o3,.int ((k+1:Nat):Int),l 7⟩]++[⟨"push",x,l 8⟩]++[⟨"label",.int ((k+1:Nat):Int),l 9⟩]++[⟨o4,.int ((k+2:Nat):Int),l 10⟩]++[⟨"push",.int 5,l 11⟩]++[⟨"tell",.non,l 12⟩]++[⟨"jump",.int ((k+2:Nat):Int),l 13⟩]++[⟨"label",.int ((k+2:Nat):Int),l 14⟩]++[⟨"jump",.int ((k+3:Nat):Int),l 15⟩]++[⟨"push",.int 6,l 16⟩]++[⟨"tell",.non,l 17⟩]++[⟨"label",.int ((k+3:Nat):Int),l 18⟩]
def Ty.hops{k:Nat}{o1 o2 o3 o4:Str}(h1:o1∈(["iftrue","iffalse"]:List Str))(h2:o2∈(["ortrue","orfalse"]:List Str))(h3:o3∈(["ortrue","orfalse"]:List Str))(h4:o4∈(["iftrue","iffalse"]:List Str))(x:V)(l:Nat->Int):
  Ty 0 true k (k+5) (My.hops k o1 o2 o3 o4 x l):=by
 have ld:=show ("load":Str)≠"label" by trivial
 have pu:=show ("push":Str)≠"label" by trivial
 have te:=show ("tell":Str)≠"label" by trivial
 have ju:=show ("jump":Str)≠"label" by trivial
 unfold My.hops;refine⟨fun d gs hg=>?_,fun Γ hΓ=>?_⟩
 ·have hl:=hg.len;simp only[km,kG] at hl;have hz:gs.length<=1000:=by lia
  refine⟨fun m=>if m=(k:Int)\/m=((k+1:Nat):Int) then some (d+1,gs) else some (d,gs),some (d+0,gs),.inl rfl,fun Γ he hE=>?_⟩;have e0:Γ (k:Int)=some (d+1,gs):=(he k (kg _)<|by lia).trans (kz<|.inl rfl);have e1:Γ ((k+1:Nat):Int)=some (d+1,gs):=(he (k+1) (by lia)<|by lia).trans (kz<|.inr rfl);have e2:Γ ((k+2:Nat):Int)=some (d,gs):=(he (k+2) (by lia)<|by lia).trans (ky<|by lia);have e3:Γ ((k+3:Nat):Int)=some (d,gs):=(he (k+3) (by lia)<|by lia).trans (ky<|by lia);have e4:Γ ((k+4:Nat):Int)=some (d,gs):=(he (k+4) (by lia)<|by lia).trans (ky<|by lia);have p0:=hg.pos;have p1:0<=d+1:=by lia
  have t1:∀g,gs.getLast?=some g->g.2<=d+1:=fun g e=>by have:=hg.top g e;lia
  have dz:d - 0+1=d+1:=by lia
  have dm:d+1 - 1+0=d:=by lia
  have L:∀(v:V)(n:Int),chk Γ [⟨"load",v,n⟩] (some (d,gs))=some (some (d+1,gs)):=fun v n=>by
   rw[z1U.chk v n p0 (fun g e=>by have:=hg.top g e;lia) hz hE,dz]
  have U:∀(v:V)(n:Int),chk Γ [⟨"push",v,n⟩] (some (d,gs))=some (some (d+1,gs)):=fun v n=>by
   rw[z08.chk v n p0 (fun g e=>by have:=hg.top g e;lia) hz hE,dz]
  have T:∀(n:Int),chk Γ [⟨"tell",.non,n⟩] (some (d+1,gs))=some (some (d,gs)):=fun n=>by
   rw[(js "tell"<|by simp).chk .non n (by lia) (fun g e=>by have:=hg.top g e;lia) hz hE,dm]
  simp only[zp,L,U,T,kf,z2Y h1 p0 hg.top hz e4,qj p0 hg.top hz e4<|.inr rfl,z5y h2 p0 hg.top hz e0,qj p1 t1 hz e0<|.inr rfl,z5y h3 p0 hg.top hz e1,qj p1 t1 hz e1<|.inr rfl,z2Y h4 p0 hg.top hz e2,Zp p0 hg.top hz e2,qj p0 hg.top hz e2<|.inl rfl,Zp p0 hg.top hz e3];rw[zJ pu,kf,zJ te,kf,qj p0 hg.top hz e3<|.inl rfl,vQ]
 ·have e0:Γ (k:Int)=none:=hΓ k (kg _) (by lia);have e1:Γ ((k+1:Nat):Int)=none:=hΓ (k+1) (by lia) (by lia);have e2:Γ ((k+2:Nat):Int)=none:=hΓ (k+2) (by lia) (by lia);have e3:Γ ((k+3:Nat):Int)=none:=hΓ (k+3) (by lia) (by lia);have e4:Γ ((k+4:Nat):Int)=none:=hΓ (k+4) (by lia) (by lia);have L:∀(v:V)(n:Int),chk Γ [⟨"load",v,n⟩] none=some none:=fun v n=>zJ ld
  have U:∀(v:V)(n:Int),chk Γ [⟨"push",v,n⟩] none=some none:=fun v n=>zJ pu
  have T:∀(v:V)(n:Int),chk Γ [⟨"tell",v,n⟩] none=some none:=fun v n=>zJ te
  have J:∀(v:V)(n:Int),chk Γ [⟨"jump",v,n⟩] none=some none:=fun v n=>zJ ju
  have O1:∀(v:V)(n:Int),chk Γ [⟨o1,v,n⟩] none=some none:=fun v n=>zJ (z6o o1 h1).2.1
  have O2:∀(v:V)(n:Int),chk Γ [⟨o2,v,n⟩] none=some none:=fun v n=>zJ (z6n o2 h2).2.1
  have O3:∀(v:V)(n:Int),chk Γ [⟨o3,v,n⟩] none=some none:=fun v n=>zJ (z6n o3 h3).2.1
  have O4:∀(v:V)(n:Int),chk Γ [⟨o4,v,n⟩] none=some none:=fun v n=>zJ (z6o o4 h4).2.1
  simp only[zp,L,U,T,J,O1,O2,O3,O4,kf,zP e0,zP e1,zP e2,zP e3,zP e4]
def Good.hops{k:Nat}{o1 o2 o3 o4:Str}(h1:o1∈(["iftrue","iffalse"]:List Str))(h2:o2∈(["ortrue","orfalse"]:List Str))(h3:o3∈(["ortrue","orfalse"]:List Str))(h4:o4∈(["iftrue","iffalse"]:List Str)){x:V}(hx:Bare "push" x){l:Nat->Int}(hl:∀i,0<=l i/\l i<=9999):
  Good k (k+5) (My.hops k o1 o2 o3 o4 x l):=by
 have u1:=z7z o1 h1;have u2:=z7y o2 h2;have u3:=z7y o3 h3;have u4:=z7z o4 h4;have b5:Bare "push" (.int 5):=JF vW vW;have b6:Bare "push" (.int 6):=JF vW vW;have ba:Bare "load" (.str "a"):=z1x (by simp);have bb:Bare "load" (.str "b"):=z1x (by simp);have nl:∀m,lab m (My.hops k o1 o2 o3 o4 x l)=ind m (k+4)+ind m k+ind m (k+1)+ind m (k+2)+ind m (k+3):=fun m=>by
  unfold My.hops;simp only[zS,qc,u1.noLab,u2.noLab,u3.noLab,u4.noLab,qd.noLab,hx.noLab,b5.noLab,b6.noLab,ba.noLab,bb.noLab,Zx.noLab];lia
 have nu:∀m,use m (My.hops k o1 o2 o3 o4 x l)=ind m (k+4)+ind m k+ind m (k+1)+ind m (k+2)+ind m (k+2)+ind m (k+3):=fun m=>by
  unfold My.hops;simp only[Z9,Zy,u1.use,u2.use,u3.use,u4.use,qd.use,hx.noUse,b5.noUse,b6.noUse,ba.noUse,bb.noUse,Zx.noUse];lia
 have L:=fun i=>(hl i).1
 have M:=fun i=>(hl i).2
 refine⟨?_,fun m=>?_,fun m h=>?_,fun m h=>?_,fun m ha hb=>?_⟩
 ·unfold My.hops;have A:∀{r:Row},RowG r->AllG [r]:=fun h=>AllG.one h
  exact ((((((((((((((((((A<|bb.rowG (L 0)<|M 0).app<|A<|u1.rowG (L 1)<|M 1).app<|A<|qA (L 2)<|M 2).app<|A<|ba.rowG (L 3)<|M 3).app<|A<|u2.rowG (L 4)<|M 4).app<|A<|bb.rowG (L 5)<|M 5).app<|A<|qA (L 6)<|M 6).app<|A<|u3.rowG (L 7)<|M 7).app<|A<|hx.rowG (L 8)<|M 8).app<|A<|qA (L 9)<|M 9).app<|A<|u4.rowG (L 10)<|M 10).app<|A<|b5.rowG (L 11)<|M 11).app<|A<|Zx.rowG (L 12)<|M 12).app<|A<|qd.rowG (L 13)<|M 13).app<|A<|qA (L 14)<|M 14).app<|A<|qd.rowG (L 15)<|M 15).app<|A<|b6.rowG (L 16)<|M 16).app<|A<|Zx.rowG (L 17)<|M 17).app (A<|qA (L 18)<|M 18)
 ·rw[nl];have:=zQ m k;have:=zQ m (k+1);have:=zQ m (k+2);have:=zQ m (k+3);have:=zQ m (k+4)
  lia
 ·rw[nl] at h;have:=zQ m k;have:=zQ m (k+1);have:=zQ m (k+2);have:=zQ m (k+3);have:=zQ m (k+4)
  lia
 ·rw[nu] at h;rw[nl];lia
 ·rw[nl];have:=zQ m k;have:=zQ m (k+1);have:=zQ m (k+2);have:=zQ m (k+3);have:=zQ m (k+4)
  lia
def z5t{n:Nat}{g:TG}{tc:TT}{te:TE}{R:Hp->Prop}{H:Hp}{l:Aa}{σ0:L2.St}(Pv:Nat->List V->L2.St->Hp->Prop)(h0:Pv 0 [] σ0 (upd H l<|.lst []))(hs:∀(i:Nat) ys σ H,i < n->Pv i ys σ H->g (.int (i:Int)) σ H fun σ2 H4=>tc σ2 H4 fun b H5=>if b=true then te σ2 H5 fun v H6=>H6 l=some (.lst ys)/\ys.length < sizeLine/\∃m',m' < n - i/\m'=n - (i+1)/\i+1<=n/\Pv (i+1) (ys++[v]) σ2 (upd H6 l<|.lst (ys++[v]))
   else ∃m',m' < n - i/\m'=n - (i+1)/\i+1<=n/\Pv (i+1) ys σ2 H5)(hd:∀ys σ H,Pv n ys σ H->R H):
  ∃W:Nat->Nat->List V->L2.St->Hp->Prop,(∃m,W 0 m [] σ0<|upd H l<|.lst [])/\∀i m ys σ' H2,W i m ys σ' H2->
   ((Itr 0 n).stop i H2/\R H2)\/((Itr 0 n).go i H2/\∀x H3,(Itr 0 n).yld i H2 x H3->g x σ' H3 (cqS tc te l W i m ys)):=by
 refine⟨fun i m ys σ H=>m=n - i/\i<=n/\Pv i ys σ H,⟨n,by simp,vj _,h0⟩,?_⟩;rintro i m ys σ H ⟨rfl,hi,p⟩;by_cases hlt:i < n
 ·refine .inr ⟨hlt,fun x H' y=>?_⟩;obtain⟨e,e2⟩:=y;subst e;have e2:x=.int (i:Int):=by rw[e2,Int.zero_add]
  subst e2;exact hs i ys σ _ hlt p
 ·have e:i=n:=by lia
  subst e;exact .inl ⟨kg _,hd ys σ H p⟩
def z6N{i:Nat}{x:V}{σ:L2.St}{H:Hp}{Q:L2.St->Hp->Prop}(h:Q (σ.set i<|some x) H):Qm i x σ H Q:=h
def z6y{L:List Int}(h:∀x∈L,0<=x/\x<=9999)(i:Nat):0<=L.getD i 10/\L.getD i 10<=9999:=by
 rw[List.getD_eq_getElem?_getD];cases e:L[i]? with
|none=>exact⟨by decide,by decide⟩
|some x=>exact h x (kH e)
def zao:∀x∈([]:List Int),0<=x/\x<=9999:=fun _ h=>by cases h
def qz{x:Int}{L:List Int}(h:0<=x/\x<=9999)(hL:∀y∈L,0<=y/\y<=9999):∀y∈x::L,0<=y/\y<=9999:=fun y hy=>(kE.mp hy).elim (fun e=>by rw[e];exact h) (hL y)
section
variable {K:ku}{H H' H1 H2:Hp}{p:Pl}{c c1 c2 k k1 k2 B B1 B2:Nat}{rs n1 n2:List Row}
def q0(g:GS K H p c rs k)(hl:rs.length<=15000){op:Str}{v:V}{Q:VK}{E:XK}(h:∀H' ln,0<=ln/\ln<=9999->Step K H H' p c rs k c [⟨op,v,ln⟩] k 1->Q .non H'):JT [.ref p.r,.str op,v] H Q E:=
 qa g (by lia) fun H' s=>h H' _ (zN hl) s
def GS.marked(g:GS K H p c rs k)(kp:∀b o,H b=some o->b≠p.m->H' b=some o)(hm:H' p.m=some (.lst<|jT k1)):GS K H' p c rs k1:=by
 obtain⟨cells,h1,h2⟩:=g.town;obtain⟨as,h3,h4⟩:=g.rows;exact⟨g.scr.keep fun o u e=>kp _ _ e<|jI e g.marks nofun,g.nsl,⟨cells,h1,kp _ _ h2 g.tm⟩,⟨as,kp _ _ h3 g.rm,h4.keep fun b xs e=>kp b _ e<|jI e g.marks nofun⟩,hm,g.tr,g.tm,g.rm⟩
def GS.mks(g:GS K H p c rs k)(kp:∀b o,H b=some o->b≠p.m->H' b=some o){n:Nat}(hm:H' p.m=some (.lst<|jT (k+n))):Step K H H' p c rs k c [] (k+n) n:=by
 refine⟨?_,kg _,by lia,by simp,by lia,kg _,fun b o e _ _ h3=>kp b o e h3⟩;rw[kW];exact g.marked kp hm
end
def Step.fit{K:ku}{H H':Hp}{p:Pl}{c c' k k' B M:Nat}{rs new:List Row}(s:Step K H H' p c rs k c' new k' B)(h:rs.length+M<=15000)(hB:B<=M):(rs++new).length<=15000:=by
 have:=s.n
 rw[km];lia
def Step.fitc{K:ku}{H H':Hp}{p:Pl}{c c' k k' B M:Nat}{rs new:List Row}(s:Step K H H' p c rs k c' new k' B)(h:c+M<=15000)(hB:B<=M):c'<=100000:=by
 have:=s.c2
 lia
def z1P{X:Cx}{l:List Stmt}{t:TS}(h:PSs X l t):∃T,PSs X l T/\∀D σ H,t D σ H->T D σ H:=⟨t,h,fun _ _ _ h=>h⟩
inductive z45(K:ku)(vs:List V)(H:Hp)(Q:VK)(E:XK):Prop
|mk (p:Pl) (c:Nat) (rs:List Row) (k:Nat):vs=[.ref p.a,.ref p.t,.ref p.r,.ref p.m]->GS K H p c rs k->c+30<=15000->rs.length+30<=15000->k+30<=15000->(∀c' new k' H',Step K H H' p c rs k c' new k' 30->Good k k' new->Ty 0 true k k' new->Q .non H')->z45 K vs H Q E
def z9H:zj ["_law_script","_law_town_here","_law_rows","_law_marks","_law_some"] ["_law_script","_law_town_here","_law_rows","_law_marks"] (zc<|top 113):=fsM
noncomputable def z2a:Scope:=(((cpX<|(zR<|top 113).getD 0<|.Pass ⟨0,0,0,0⟩).bind cpS).getD<|zc<|top 113)
noncomputable def z9e(L:Aa):List (Str × Aa):=[("_law_marks",L+1)]
noncomputable def z4D:List (Str × NameKind):=[(".0",.local),("_law_k",.local),("_law_mark",.globalImplicit),("_law_marks",.cell)]
noncomputable def N121:List Str:=["_law_k","_law_marks"]
def z9b(f:Aa)(cdv:Ab)(L:Aa):closureFor z2a (envOfC "_law_hops" (zc<|top 113) L f cdv)=pure (z9e L):=by rfl
def z9O(f:Aa)(cdv:Ab)(L:Aa):(relabel z2a<|envOfC "_law_hops" (zc<|top 113) L f cdv).names=z4D:=by rfl
def zbz:N121.Nodup:=vW
def zc1{f:Aa}{cdv:Ab}{A:Around}{vZ:List Env}{s:Ac}{H:Hp}{E:XK}:
  zT (cxOf CX0 P w K mg base ["_law_script","_law_town_here","_law_rows","_law_marks","_law_some"] "_law_hops" (zc<|top 113) f cdv A vZ s H E).nox N121 1 [3] z2a (z9e s.heap.objs.size) where
 clos:=z9b f cdv s.heap.objs.size
 nocell:=vW
 kind:=rfl
 names:=vW
 sub:=fun x c e=>e
 has:=fun x h=>by
  have e:=z9O f cdv s.heap.objs.size;have h:z4D.lookup x=some .cell\/z4D.lookup x=some .free:=by rw[<-e];exact h
  have:x="_law_marks":=by
   rcases h with h|h
   ·have hm:=vc h;simp only[z4D,kE,vi,kq,or_false] at hm;rcases hm with z|z|z|z
    all_goals first|exact z.1|exact z.2.elim|cases z.2
   ·have hm:=vc h;simp only[z4D,kE,vi,kq,or_false] at hm;rcases hm with z|z|z|z
    all_goals first|exact z.2.elim|cases z.2
  subst this;exact⟨_,rfl⟩
 len:=rfl
 free:=fun j x e=>by
  match j,e with
 |0,e=>cases e;exact⟨3,rfl,rfl,rfl,rfl,fun c h=>h⟩
 |j+1,e=>exact vd e (by rw[vp<|by show 2<=1+(j+1);lia];exact nofun)
section
def z8W(D:zn K mg "_law_hops" (top 113))(G:Glo mg)(S:jH P w K mg base):FN P w K mg base 4 "_law_hops" ["_law_script","_law_town_here","_law_rows","_law_marks"] (z45 K):=by
 refine FN.o D z9H ?_;rintro f cdv A vZ s H _ _ E hr ⟨p,c,rs,k,rfl,g,bc,br,bk,q⟩;have hr1:=hr.mono (vW:1<=3);have hr2:=hr.mono (vW:2<=3);obtain⟨T2,hT2,bT2⟩:=z1P (X:=(cxOf CX0 P w K mg base ["_law_script","_law_town_here","_law_rows","_law_marks","_law_some"] "_law_hops" (zc<|top 113) f cdv A vZ s H E).nox) (l:=(zR<|top 113).drop 17) (z6 (zi<|zB S.put3 hr1 rfl<|pa3 (pvX 2) zh zb)
  (z6 (zi<|zB S.put2 hr1 rfl<|pa2 (pvX 2) zh)
  (z8<|zi<|zB S.put3 hr1 rfl<|pa3 (pvX 2) zh<|zG zH (pvX 4) zb)))
 obtain⟨T1,hT1,bT1⟩:=z1P (X:=(cxOf CX0 P w K mg base ["_law_script","_law_town_here","_law_rows","_law_marks","_law_some"] "_law_hops" (zc<|top 113) f cdv A vZ s H E).nox) (l:=(zR<|top 113).drop 12) (z6 (zi<|zB S.put3 hr1 rfl<|pa3 (pvX 2) zh zb)
  (z6 (zi<|zB S.put2 hr1 rfl<|pa2 (pvX 2) zh)
  (z6 (zi<|zB S.put3 hr1 rfl<|pa3 (pvX 2) zh<|zG zH (pvX 4) zb)
  (z6 (zi<|zB S.put3 hr1 rfl<|pa3 (pvX 2) zh<|zG zH (pvX 4) zb)
  (z6 (zi<|zB S.put3 hr1 rfl<|pa3 (pvX 2) zh<|zG zH (pvX 4) zb) hT2)))))
 obtain⟨T0,hT0,bT0⟩:=z1P (X:=(cxOf CX0 P w K mg base ["_law_script","_law_town_here","_law_rows","_law_marks","_law_some"] "_law_hops" (zc<|top 113) f cdv A vZ s H E).nox) (l:=(zR<|top 113).drop 6) (z6 (zi<|zB S.put3 hr1 rfl<|pa3 (pvX 2) zh zh)
  (z6 (zi<|zB S.put3 hr1 rfl<|pa3 (pvX 2) zh<|zG zH (pvX 4) zb)
  (z6 (zi<|zB S.put3 hr1 rfl<|pa3 (pvX 2) (zk S.pick hr2 rfl<|pa3 (pvX 0) (pvX 1)<|zO<|pa2 zh zh)<|zG zH (pvX 4) zb)
  (z6 (zi<|zB S.put3 hr1 rfl<|pa3 (pvX 2) zh<|zk S.const hr rfl<|pa2 (pvX 0)<|pvX 1)
  (z6 (zi<|zB S.put3 hr1 rfl<|pa3 (pvX 2) zh<|zG zH (pvX 4) zb)
  (z6 (zi<|zB S.put3 hr1 rfl<|pa3 (pvX 2) (zk S.pick hr2 rfl<|pa3 (pvX 0) (pvX 1)<|zO<|pa2 zh zh)<|zG zH (pvX 4) zb) hT1))))))
 refine⟨_,z6 (jZ (i:=4) (N:=N121) (nt:=1) (ix:=[3]) (cl:=z9e s.heap.objs.size) rfl z9H.nd rfl (Or.inl rfl) zc1 (qB rfl G.range<|pa1 zb)
   (fun _ _ _ _=>zL 0 zbz) (fun _ _ _ _=>qr) (fun _ _ _ _=>zk S.mark hr1 rfl<|pa1<|pvX 1))
  (z6 (zi<|zB S.put3 hr1 rfl<|pa3 (pvX 2) zh zh)
  (z6 (zi<|zB S.put3 hr1 rfl<|pa3 (pvX 2) (zk S.pick hr2 rfl<|pa3 (pvX 0) (pvX 1)<|zO<|pa2 zh zh)<|zG zH (pvX 4) zb)
  (z6 (zi<|zB S.put3 hr1 rfl<|pa3 (pvX 2) zh<|zG zH (pvX 4) zb)
  (z6 (zi<|zB S.put3 hr1 rfl<|pa3 (pvX 2) zh zh)
  (z6 (zi<|zB S.put3 hr1 rfl<|pa3 (pvX 2) (zk S.pick hr2 rfl<|pa3 (pvX 0) (pvX 1)<|zO<|pa2 zh zh)<|zG zH (pvX 4) zb) hT0))))),?_⟩
 symm
 refine⟨5,rfl,by decide,by decide,fun nl hnl=>z5t (n:=5) (fun i ys σ H2=>(∃x:Option V,σ=[x,some<|.ref p.m])/\ys=(List.range i).map (fun j=>V.int ((k+j:Nat):Int))/\(∀b o,H b=some o->b≠p.m->H2 b=some o)/\H2 p.m=some (.lst<|jT (k+i))/\H2 nl=some (.lst ys)) ⟨⟨none,rfl⟩,rfl,fun b o e _=>ze hnl _ _ _ e,ze hnl _ _ _ g.marks,z7⟩ ?_ ?_⟩
 ·rintro i ys σ H2 hi ⟨⟨x,rfl⟩,rfl,kp,hm,hn⟩;have mn:p.m≠nl:=zd g.marks hnl;refine z6N ?_;refine JM ?_;refine⟨_,rfl,p.m,k+i,rfl,hm,by lia,?_⟩;refine⟨by rw[zg mn.symm];exact hn,?_,5 - (i+1),by lia,rfl,by lia,⟨_,rfl⟩,?_,fun b o e hb=>?_,?_,z7⟩
  ·rw[kl,Am];exact zF (by lia)
  ·rw[List.range_succ,kK];rfl
  ·rw[zg<|zd e hnl,zg hb];exact kp b o e hb
  ·rw[zg mn,z7];rfl
 ·rintro ys σ H1 ⟨_,rfl,kp,hm,hn⟩;have t0:=g.mks kp hm;have nt:nl≠p.t:=by
   obtain⟨cells,_,h2⟩:=g.town;exact (zd h2 hnl).symm
  have nr:nl≠p.r:=by
   obtain⟨as,h3,_⟩:=g.rows;exact (zd h3 hnl).symm
  have nm:nl≠p.m:=(zd g.marks hnl).symm;have hn:H1 nl=some (.lst [.int (k:Int),.int ((k+1:Nat):Int),.int ((k+2:Nat):Int),.int ((k+3:Nat):Int),.int ((k+4:Nat):Int)]):=hn;clear hm kp hnl g;have g0:=t0.gs;refine⟨_,rfl,q0 t0.gs (t0.fit br<|by decide) fun G0 n0 b0 s0=>?_⟩;have t1:=t0.trans s0;have k0:=s0.keep nl _ hn nt nr nm;refine⟨_,rfl,_,rfl,_,rfl,vX,fun x1 hx1=>?_⟩;refine qW t1.gs (t1.fitc bc<|by decide) hx1 (by show 1<=2;decide) (by show 2<=1000;decide) fun v1 D1 hv1 d1=>?_
  obtain⟨o1,rfl,mo1⟩:=z09 hv1;have u1:=t1.tick d1;have k0d1:=d1.keep nl _ k0 nt nr nm;refine⟨_,rfl,nl,_,_,_,rfl,rfl,SqL.of k0d1,zm (j:=4) rfl,q0 u1.gs (u1.fit br<|by decide) fun G1 n1 b1 s1=>?_⟩;have t2:=u1.trans s1;have k1:=s1.keep nl _ k0d1 nt nr nm;refine⟨_,rfl,_,rfl,nl,_,_,_,rfl,rfl,SqL.of k1,zm (j:=4) rfl,q0 t2.gs (t2.fit br<|by decide) fun G2 n2 b2 s2=>?_⟩;have t3:=t2.trans s2;have k2:=s2.keep nl _ k1 nt nr nm;refine⟨_,rfl,q0 t3.gs (t3.fit br<|by decide) fun G3 n3 b3 s3=>?_⟩;have t4:=t3.trans s3;have k3:=s3.keep nl _ k2 nt nr nm;refine⟨_,rfl,_,rfl,_,rfl,vX,fun x4 hx4=>?_⟩;refine qW t4.gs (t4.fitc bc<|by decide) hx4 (by show 1<=2;decide) (by show 2<=1000;decide) fun v4 D4 hv4 d4=>?_
  obtain⟨o2,rfl,mo2⟩:=z09 hv4;have u4:=t4.tick d4;have k3d4:=d4.keep nl _ k3 nt nr nm;refine⟨_,rfl,nl,_,_,_,rfl,rfl,SqL.of k3d4,zm (j:=0) rfl,q0 u4.gs (u4.fit br<|by decide) fun G4 n4 b4 s4=>?_⟩;have t5:=u4.trans s4;have k4:=s4.keep nl _ k3d4 nt nr nm;refine bT0 _ _ _ ?_;refine⟨_,rfl,q0 t5.gs (t5.fit br<|by decide) fun G5 n5 b5 s5=>?_⟩;have t6:=t5.trans s5;have k5:=s5.keep nl _ k4 nt nr nm;refine⟨_,rfl,_,rfl,nl,_,_,_,rfl,rfl,SqL.of k5,zm (j:=0) rfl,q0 t6.gs (t6.fit br<|by decide) fun G6 n6 b6 s6=>?_⟩;have t7:=t6.trans s6;have k6:=s6.keep nl _ k5 nt nr nm;refine⟨_,rfl,_,rfl,_,rfl,vX,fun x7 hx7=>?_⟩;refine qW t7.gs (t7.fitc bc<|by decide) hx7 (by show 1<=2;decide) (by show 2<=1000;decide) fun v7 D7 hv7 d7=>?_
  obtain⟨o3,rfl,mo3⟩:=z09 hv7;have u7:=t7.tick d7;have k6d7:=d7.keep nl _ k6 nt nr nm;refine⟨_,rfl,nl,_,_,_,rfl,rfl,SqL.of k6d7,zm (j:=1) rfl,q0 u7.gs (u7.fit br<|by decide) fun G7 n7 b7 s7=>?_⟩;have t8:=u7.trans s7;have k7:=s7.keep nl _ k6d7 nt nr nm;refine⟨_,rfl,_,rfl,_,rfl,QK t8.gs (t8.fitc bc<|by decide) fun v D8 hv ho d8=>?_⟩;have u8:=t8.tick d8;have k7d8:=d8.keep nl _ k7 nt nr nm;refine q0 u8.gs (u8.fit br<|by decide) fun G8 n8 b8 s8=>?_
  have t9:=u8.trans s8;have k8:=s8.keep nl _ k7d8 nt nr nm;refine⟨_,rfl,_,rfl,nl,_,_,_,rfl,rfl,SqL.of k8,zm (j:=1) rfl,q0 t9.gs (t9.fit br<|by decide) fun G9 n9 b9 s9=>?_⟩;have t10:=t9.trans s9;have k9:=s9.keep nl _ k8 nt nr nm;refine⟨_,rfl,_,rfl,_,rfl,vX,fun x10 hx10=>?_⟩;refine qW t10.gs (t10.fitc bc<|by decide) hx10 (by show 1<=2;decide) (by show 2<=1000;decide) fun v10 D10 hv10 d10=>?_
  obtain⟨o4,rfl,mo4⟩:=z09 hv10;have u10:=t10.tick d10;have k9d10:=d10.keep nl _ k9 nt nr nm;refine⟨_,rfl,nl,_,_,_,rfl,rfl,SqL.of k9d10,zm (j:=2) rfl,q0 u10.gs (u10.fit br<|by decide) fun G10 n10 b10 s10=>?_⟩;have t11:=u10.trans s10;have k10:=s10.keep nl _ k9d10 nt nr nm;refine bT1 _ _ _ ?_;refine⟨_,rfl,q0 t11.gs (t11.fit br<|by decide) fun G11 n11 b11 s11=>?_⟩;have t12:=t11.trans s11;have k11:=s11.keep nl _ k10 nt nr nm;refine⟨_,rfl,q0 t12.gs (t12.fit br<|by decide) fun G12 n12 b12 s12=>?_⟩;have t13:=t12.trans s12;have k12:=s12.keep nl _ k11 nt nr nm;refine⟨_,rfl,_,rfl,nl,_,_,_,rfl,rfl,SqL.of k12,zm (j:=2) rfl,q0 t13.gs (t13.fit br<|by decide) fun G13 n13 b13 s13=>?_⟩;have t14:=t13.trans s13;have k13:=s13.keep nl _ k12 nt nr nm;refine⟨_,rfl,_,rfl,nl,_,_,_,rfl,rfl,SqL.of k13,zm (j:=2) rfl,q0 t14.gs (t14.fit br<|by decide) fun G14 n14 b14 s14=>?_⟩;have t15:=t14.trans s14;have k14:=s14.keep nl _ k13 nt nr nm;refine⟨_,rfl,_,rfl,nl,_,_,_,rfl,rfl,SqL.of k14,zm (j:=3) rfl,q0 t15.gs (t15.fit br<|by decide) fun G15 n15 b15 s15=>?_⟩;have t16:=t15.trans s15;have k15:=s15.keep nl _ k14 nt nr nm;refine bT2 _ _ _ ?_;refine⟨_,rfl,q0 t16.gs (t16.fit br<|by decide) fun G16 n16 b16 s16=>?_⟩;have t17:=t16.trans s16;have k16:=s16.keep nl _ k15 nt nr nm;refine⟨_,rfl,q0 t17.gs (t17.fit br<|by decide) fun G17 n17 b17 s17=>?_⟩;have t18:=t17.trans s17;have k17:=s17.keep nl _ k16 nt nr nm;refine⟨_,rfl,_,rfl,nl,_,_,_,rfl,rfl,SqL.of k17,zm (j:=3) rfl,q0 t18.gs (t18.fit br<|by decide) fun G18 n18 b18 s18=>?_⟩;have t19:=t18.trans s18;have k18:=s18.keep nl _ k17 nt nr nm;have hl:=z6y (qz b0<|qz b1<|qz b2<|qz b3<|qz b4<|qz b5<|qz b6<|qz b7<|qz b8<|qz b9<|qz b10<|qz b11<|qz b12<|qz b13<|qz b14<|qz b15<|qz b16<|qz b17<|qz b18 zao);have GG:=Good.hops (k:=k) mo1 mo2 mo3 mo4 (JF hv ho) hl;have TT:=Ty.hops (k:=k) mo1 mo2 mo3 mo4 v (fun i=>[n0,n1,n2,n3,n4,n5,n6,n7,n8,n9,n10,n11,n12,n13,n14,n15,n16,n17,n18].getD i 10);clear hl;unfold My.hops at GG TT;simp only[List.getD_cons_zero,List.getD_cons_succ] at GG TT;exact q _ _ _ _ (t19.more<|by lia) GG TT
end
def cd1:CD 3 1 384:=⟨1,rfl,by decide,rfl⟩
def cmv3(e:Int):CMV 3 e 30:=⟨by decide,rfl⟩
def z65{v:V}(h:v∈([.str "add",.str "sub",.str "mul",.str "div",.str "less",.str "same"]:List V)):∃op,v=.str op/\Bare op .non/\Zi op 2 1:=by
 simp only[kE,kq,or_false] at h;rcases h with rfl|rfl|rfl|rfl|rfl|rfl
 ·exact⟨"add",rfl,jr vW,Qu _<|by simp⟩
 ·exact⟨"sub",rfl,jr vW,Qu _<|by simp⟩
 ·exact⟨"mul",rfl,jr vW,Qu _<|by simp⟩
 ·exact⟨"div",rfl,jr vW,Qu _<|by simp⟩
 ·exact⟨"less",rfl,jr vW,Qu _<|by simp⟩
 ·exact⟨"same",rfl,jr vW,Qu _<|by simp⟩
def z8a{v:V}(h:v∈([.str "neg",.str "not"]:List V)):∃op,v=.str op/\Bare op .non/\Zi op 1 1:=by
 simp only[kE,kq,or_false] at h;rcases h with rfl|rfl
 ·exact⟨"neg",rfl,jr vW,z4m _<|by simp⟩
 ·exact⟨"not",rfl,jr vW,z4m _<|by simp⟩
inductive z1J(K:ku)(vs:List V)(H:Hp)(Q:VK)(E:XK):Prop
|mk (a t:Aa) (ns:List Int) (c:Nat) (cells:List Int):vs=[.ref a,.ref t]->Scr K H a (ns.map V.int)->ns.length<=1000->cells.length=ns.length->H t=some (.lst<|qM c cells)->c<=90->(∀(l:Aa)(as:List Aa)(rs:List Row)(k c':Nat)(cells':List Int) H',H' l=some (.lst<|as.map V.ref)->zI H' as rs->Good 0 k rs->(∃Γ:Int->Option Sta,(∀m,Γ m≠none->0<=m/\m < (k:Int))/\chk Γ rs (some (0,[]))=some none)->k<=90->1<=rs.length->rs.length<=140->l≠t->cells'.length=ns.length->H' t=some (.lst<|qM c' cells')->c'<=14000->Zk H H' t->Q (.ref l) H')->z1J K vs H Q E
def z1M:zj ["_law_script","_law_town_here","_law_rows","_law_marks","_law_k","_law_way","_law_j"] ["_law_script","_law_town_here"] (zc<|top 112):=fsM
section
def DsO(K:ku)(H2:Hp)(p:Pl)(c:Nat)(i:Nat)(σ:L2.St)(H4:Hp):Prop:=∃v w z c' new k',σ=[some<|.ref p.a,some<|.ref p.t,some<|.ref p.r,some<|.ref p.m,v,w,z]/\Step K H2 H4 p c [] 0 c' new k' (1+390 * i)/\Good 0 k' new/\Ty 0 false 0 k' new
def DsI(K:ku)(H5:Hp)(p:Pl)(c:Nat)(rs:List Row)(k':Nat)(B:Nat)(δ:Int)(σ:L2.St)(H6:Hp):Prop:=∃v w z c6 n6,σ=[some<|.ref p.a,some<|.ref p.t,some<|.ref p.r,some<|.ref p.m,v,w,z]/\Step K H5 H6 p c rs k' c6 n6 k' B/\Good k' k' n6/\Ty δ true k' k' n6
def z75(D:zn K mg "_law_dense" (top 112))(G:Glo mg)(S:jH P w K mg base)(FV:Fk P w K mg base)(FM:FN P w K mg base 10 "_law_moved_value" gps (qw K (CMV 3) 1 true))(FD:FN P w K mg base 16 "_law_deed" gps (qw K (CD 3) 0 false))(FH:FN P w K mg base 4 "_law_hops" ["_law_script","_law_town_here","_law_rows","_law_marks"] (z45 K)):FN P w K mg base 17 "_law_dense" Vd (z1J K):=by
 refine FN.o D z1M ?_;rintro _ _ _ _ _ H _ Q _ hr ⟨a,t,ns,c,cells,rfl,hS,hns,hcl,hT,hc,q⟩;have hr1:=hr.mono (vW:1<=16);have hr2:=hr.mono (vW:2<=16);have hr3:=hr.mono (vW:3<=16);have hr4:=hr.mono (vW:4<=16);have hr9:=hr.mono (vW:9<=16);have hr10:=hr.mono (vW:10<=16);refine⟨_,(z6 (zM 2 z1M.nd<|zO qC)
  (z6 (zM 3 z1M.nd<|zO qC)
  (z6 (qQ vo rfl (qB rfl G.range<|pa1<|zE qT zb<|zk S.draw hr1 rfl<|pa3 (pvX 0) (pvX 1) zb) (zL 4 z1M.nd) (z6 (zM 5 z1M.nd<|zk S.draw hr1 rfl<|pa3 (pvX 0) (pvX 1) zb)
  (z8 (zV (zo qX (pvX 5) zb<|zy _) (z6 (zi<|zk FM hr10 rfl<|zf (pvX 0)<|zf (pvX 1)<|pa3 (pvX 2) (pvX 3) zb)
  (z8<|zi<|zB S.put2 hr1 rfl<|pa2 (pvX 2) zh)) (z8 (zV (zo qX (pvX 5) zb<|zy _) (z6 (qQ vo rfl (qB rfl G.range<|pa1 zb) (zL 6 z1M.nd)<|z8<|zi<|zB S.put3 hr1 rfl<|pa3 (pvX 2) zh<|zk S.const hr3 rfl<|pa2 (pvX 0)<|pvX 1)
  (z6 (qQ vo rfl (qB rfl G.range<|pa1 zb) (zL 6 z1M.nd)<|z8<|zi<|zB S.put2 hr1 rfl<|pa2 (pvX 2)<|zk S.pick hr2 rfl<|pa3 (pvX 0) (pvX 1)<|zO<|zf zh<|zf zh<|zf zh<|pa3 zh zh zh)
  (z8<|zi<|zB S.put2 hr1 rfl<|pa2 (pvX 2) zh))) (z8 (zV (zo qX (pvX 5) zb<|zy _) (z8<|zi<|zk FH hr4 rfl<|zf (pvX 0)<|pa3 (pvX 1) (pvX 2)<|pvX 3) (z8 (zV (zo qX (pvX 5) zb<|zy _) (z6 (zi<|zB S.put3 hr1 rfl<|pa3 (pvX 2) zh<|zk S.const hr3 rfl<|pa2 (pvX 0)<|pvX 1)
  (z6 (zi<|zB S.put2 hr1 rfl<|pa2 (pvX 2)<|zk S.pick hr2 rfl<|pa3 (pvX 0) (pvX 1)<|zO<|pa2 zh zh)
  (z6 (zi<|zB S.put3 hr1 rfl<|pa3 (pvX 2) zh zb)
  (z6 (zi<|zB S.put2 hr1 rfl<|pa2 (pvX 2) zh)
  (z8<|zi<|zB S.put2 hr1 rfl<|pa2 (pvX 2) zh)))))<|z8<|zi<|zk FD hr rfl<|zf (pvX 0)<|zf (pvX 1)<|pa3 (pvX 2) (pvX 3) zb))))))))))
  (z6 (zi<|zk FV hr9 rfl<|zf (pvX 0)<|zf (pvX 1)<|pa3 (pvX 2) (pvX 3) zb)
  (z6 (zi<|zB S.put2 hr1 rfl<|pa2 (pvX 2) zh)
  (z6 (zV (PW.pt<|QZ (zo J6 (zq zr rfl G.len zK<|pa1<|pvX 2) zb<|zy _)<|Zu<|zo J6 (zq zr rfl G.len zK<|pa1<|pvX 3) zb<|zy _) (z8<|zl<|zO<|pa2 (zY<|pa3 zh zh zb)<|zY<|pa3 zh qR zb) zC)
  (z8<|zl<|pvX 2))))))),?_⟩
 symm
 refine⟨vX,fun r hr0=>⟨vX,fun m hm0=>?_⟩⟩;have sr:Same H (upd H r<|.lst []):=ze hr0 _;have sm:Same (upd H r<|.lst []) (upd (upd H r<|.lst []) m<|.lst []):=ze hm0 _;have rm:r≠m:=zd (H:=upd H r (.lst [])) z7 hm0;have tr:t≠r:=zd hT hr0;have tm:t≠m:=zd (sr _ _ hT) hm0;have s02:=sr.trans sm;generalize hH2:upd (upd H r<|.lst []) m (.lst [])=H2 at *;have hr2':H2 r=some (.lst []):=by rw[<-hH2,zg rm];exact z7
 have hm2':H2 m=some (.lst []):=by rw[<-hH2];exact z7
 have g:GS K H2 ⟨a,t,r,m,ns⟩ c [] 0:=⟨hS.keep fun o u e=>s02 _ _ e,hns,⟨cells,hcl,s02 _ _ hT⟩,⟨[],hr2',.nil⟩,hm2',tr,tm,rm⟩
 generalize hp:(⟨a,t,r,m,ns⟩:Pl)=p at *;have pa:p.a=a:=by rw[<-hp]
 have pt:p.t=t:=by rw[<-hp]
 have pr:p.r=r:=by rw[<-hp]
 have pm:p.m=m:=by rw[<-hp]
 have pn:p.ns=ns:=by rw[<-hp]
 subst pa pt pr pm pn;clear hp;refine⟨_,rfl,_,rfl,jC g (by lia) (by decide) (by decide) fun j H3 j0 j1 s3=>?_⟩;refine⟨_,_,rfl,rfl,1+j,rfl,by lia,by lia,qJ (lo:=0) (n:=(1+j).toNat) (DsO K H2 p c)
  ⟨none,none,none,_,_,_,rfl,s3,Good.nil 0,(Ty.nil 0).weak⟩ ?_ ?_⟩
 ·rintro i σ H4 hi ⟨v,w0,z0,c',new,k',rfl,st,gd,ty⟩;have hin:i < 5:=by lia
  have l:=st.len;have lc:=st.c2;have lk:=st.k2;rw[List.length_nil] at l;refine⟨_,rfl,_,rfl,jC st.gs (by lia) (by decide) (by decide) fun y H5 y0 y1 s5=>?_⟩;have t5:=st.tick s5;have fin:∀{v1 w1 z1:Option V}{c6:Nat}{n6:List Row}{k6 B:Nat}{su:Bool}{H6:Hp},B<=385->Step K H5 H6 p (c'+1) ([]++new) k' c6 n6 k6 B->Good k' k6 n6->Ty 0 su k' k6 n6->
    DsO K H2 p c (i+1) [some<|V.ref p.a,some<|.ref p.t,some<|.ref p.r,some<|.ref p.m,v1,w1,z1] H6:=fun {v1 w1 z1 c6 n6 k6 B su H6} hB s6 g6 y6=>
   ⟨v1,w1,z1,c6,new++n6,k6,rfl,(t5.trans s6).more (by lia),gd.app g6 (vj _) s6.k1,((ty.app y6 (vj _) s6.k1<|by decide).cast<|by decide)⟩
  have lz:([]++new:List Row).length<=2000:=by rw[List.nil_append];simp at l;lia
  have ck:c'<=2100:=by lia
  have kk:k'<=2000:=by lia
  refine⟨_,rfl,rfl,_,rfl,?_⟩;refine ite2 (fun _=>?_) (fun _=>?_)
  ·refine⟨_,rfl,_,rfl,_,rfl,_,rfl,p,_,_,_,_,30,rfl,cmv3 _,t5.gs,(by lia),(by lia),(by lia),fun c6 n6 k6 H6 s6 g6 y6=>?_⟩;have l6:=s6.len;refine⟨_,rfl,q0 s6.gs (by lia) fun H7 ln b7 s7=>?_⟩;exact fin (B:=31) (by lia) (s6.trans s7) (g6.put s6.k1 Zx b7.1 b7.2) ((y6.row (js _<|by simp) (by decide) _ _).cast<|by decide)
  ·refine⟨_,rfl,rfl,_,rfl,?_⟩;refine ite2 (fun _=>?_) (fun _=>?_)
   ·refine⟨3,rfl,by decide,by decide,qJ (lo:=0) (n:=3) (fun i1=>DsI K H5 p (c'+1) ([]++new) k' (2 * i1) (i1:Int))
     ⟨_,_,_,_,_,rfl,t5.gs.refl,Good.nil k',Ty.nil k'⟩ ?_ ?_⟩
    ·rintro i1 σ H6 hi1 ⟨v,w,z,c6,n6,rfl,s6,g6,y6⟩;have l6:=s6.len;have lc6:=s6.c2;refine⟨_,rfl,_,rfl,_,rfl,QK s6.gs (by lia) fun v7 H7 hv ho s7=>?_⟩;have t7:=s6.tick s7;have l7:=t7.len;refine q0 t7.gs (by lia) fun H8 ln b8 s8=>?_
     exact⟨_,_,_,_,_,rfl,(t7.trans s8).more (by lia),g6.put (kg _) (JF hv ho) b8.1 b8.2,(y6.row z08 (by lia) _ _).cast<|by push_cast;lia⟩
    rintro σ H6 ⟨v,w,z,c6,n6,rfl,s6,g6,y6⟩;refine⟨2,rfl,by decide,by decide,qJ (lo:=0) (n:=2) (fun i1=>DsI K H5 p (c'+1) ([]++new) k' (6+2 * i1) (3 - (i1:Int)))
     ⟨_,_,_,_,_,rfl,s6,g6,y6.cast<|by decide⟩ ?_ ?_⟩
    ·rintro i1 σ H6 hi1 ⟨v,w,z,c6,n6,rfl,s6,g6,y6⟩;have l6:=s6.len;have lc6:=s6.c2;refine⟨_,rfl,_,rfl,_,rfl,vX,fun x hx=>?_⟩;refine qW s6.gs (by lia) hx (by show 1<=6;decide) (by show 6<=1000;decide) fun v7 H7 hv s7=>?_
     obtain⟨op,rfl,hb,hpl⟩:=z65 hv;have t7:=s6.tick s7;have l7:=t7.len;refine q0 t7.gs (by lia) fun H8 ln b8 s8=>?_
     exact⟨_,_,_,_,_,rfl,(t7.trans s8).more (by lia),g6.put (kg _) hb b8.1 b8.2,(y6.row hpl (by lia) _ _).cast<|by push_cast;lia⟩
    rintro σ H7 ⟨v,w,z,c7,n7,rfl,s7,g7,y7⟩;have l7:=s7.len;refine⟨_,rfl,q0 s7.gs (by lia) fun H8 ln b8 s8=>?_⟩;exact fin (B:=11) (by lia) (s7.trans s8) (g7.put (kg _) Zx b8.1 b8.2) ((y7.row (js _<|by simp) (by decide) _ _).cast<|by decide)
   ·refine⟨_,rfl,rfl,_,rfl,?_⟩;refine ite2 (fun _=>?_) (fun _=>?_)
    ·refine⟨_,rfl,_,rfl,_,rfl,_,rfl,p,_,_,_,rfl,t5.gs,(by lia),(by lia),(by lia),fun c6 n6 k6 H6 s6 g6 y6=>?_⟩;exact fin (B:=30) (by lia) s6 g6 y6
    ·refine⟨_,rfl,rfl,_,rfl,?_⟩;refine ite2 (fun _=>?_) (fun _=>?_)
     ·refine⟨_,rfl,_,rfl,_,rfl,QK t5.gs (by lia) fun v7 H7 hv ho s7=>?_⟩;have t7:=s7;have l7:=t7.len;refine q0 t7.gs (by lia) fun H8 ln8 b8 s8=>?_
      have t8:=t7.trans s8;have l8:=t8.len;refine⟨_,rfl,_,rfl,_,rfl,vX,fun x hx=>?_⟩;refine qW t8.gs (by have:=t8.c2;lia) hx (by show 1<=2;decide) (by show 2<=1000;decide) fun v9 H9 hv9 s9=>?_
      obtain⟨op,rfl,hb,hpl⟩:=z8a hv9;have t9:=t8.tick s9;have l9:=t9.len;refine q0 t9.gs (by lia) fun HA lnA bA sA=>?_
      have tA:=t9.trans sA;have lA:=tA.len;refine⟨_,rfl,q0 tA.gs (by lia) fun HB lnB bB sB=>?_⟩;have tB:=tA.trans sB;have lB:=tB.len;refine⟨_,rfl,q0 tB.gs (by lia) fun HC lnC bC sC=>?_⟩;have tC:=tB.trans sC;have lC:=tC.len;refine⟨_,rfl,q0 tC.gs (by lia) fun HD lnD bD' sD=>?_⟩;refine fin (B:=385) (su:=true) (by lia) ((tC.trans sD).more<|by lia) ((((((Good.nil k').put (kg _) (JF hv ho) b8.1 b8.2).put (kg _) hb bA.1 bA.2).put (kg _) (z7H (by decide)<|by decide) bB.1 bB.2).put (kg _) z33 bC.1 bC.2).put (kg _) Zx bD'.1 bD'.2) ?_;have y1:Ty 1 true k' k' _:=((Ty.nil k').row z08 (by decide) v7 ln8).cast (by decide);have y2:Ty 1 true k' k' _:=(y1.row hpl (by decide) .non lnA).cast (by decide);have y3:Ty 2 true k' k' _:=(y2.deep z5m (n:=1) (by decide) lnB).cast (by decide);have y4:Ty 1 true k' k' _:=(y3.row (js "drop"<|by simp) (by decide) .non lnC).cast (by decide);exact (y4.row (js "tell"<|by simp) (by decide) .non lnD).cast (by decide)
     ·refine⟨_,rfl,_,rfl,_,rfl,_,rfl,p,_,_,_,_,384,rfl,cd1,t5.gs,(by lia),(by lia),(by lia),fun c6 n6 k6 H6 s6 g6 y6=>?_⟩;exact fin (B:=384) (by lia) s6 g6 y6
 rintro σ H4 ⟨v4,w4,z4,c4,n4,k4,rfl,t4,g4,y4⟩;have t4:=t4.more (show _<=2000 by lia);refine⟨_,rfl,_,rfl,_,rfl,_,rfl,p,_,_,_,_,3,rfl,cv0,t4.gs,(by have:=t4.c2;lia),(by have:=t4.len;simp at this ⊢;lia),(by have:=t4.k2;lia),fun c5 n5 k5 H5 s5 g5 y5=>?_⟩;have t5:=t4.trans s5;refine⟨_,rfl,qa t5.gs (by have:=t5.len;simp at this ⊢;lia) fun H6 s6=>?_⟩;have t6:=t5.trans s6;have L5:=zN (kr t5.len (show _<=15000 by simp));have g6:=(g4.app g5 (vj _) s5.k1).put (vj _) QP L5.1 L5.2;have cK:n4.length+n5.length<=998->∃Γ:Int->Option Sta,(∀m,Γ m≠none->0<=m/\m < (k5:Int))/\chk Γ (n4++n5++[(⟨Str.ofString "return",.non,10+(([]++(n4++n5):List Row).length:Int) / 2⟩:Row)]) (some (0,[]))=some none:=fun hz=>z0w (y4.whole y5 (vj _) s5.k1 _ hz)
 have hlen:(n4++n5++[(⟨Str.ofString "return",.non,10+(([]++(n4++n5):List Row).length:Int) / 2⟩:Row)]).length=n4.length+n5.length+1:=by rw[km,km];rfl
 generalize hn:n4++n5++[(⟨Str.ofString "return",.non,10+(([]++(n4++n5):List Row).length:Int) / 2⟩:Row)]=nn at *;have hpos:1<=nn.length:=by rw[<-hn];simp only[km,kP,List.length_nil,kG];lia
 obtain⟨as,h3,h4⟩:=t6.gs.rows;have hal:(as.map V.ref).length=nn.length:=by rw[kl,h4.len];rfl
 obtain⟨cells',hl',hT'⟩:=t6.gs.town;have hc6:=t6.c2;have kp:Zk H H6 p.t:=fun b o e hb=>t6.keep b o (s02 _ _ e) hb (zd e hr0) (fun z=>by
  have:=sr _ _ e
  rw[z,hm0] at this;cases this)
 have two:∀H7,Same H6 H7->∀x y l,H7 x=some (.tup [.str "load",.str "a",.int 7])->H7 y=some (.tup [.str "return",.non,.int 8])->H7 l=some (.lst [.ref x,.ref y])->l≠p.t->Q (.ref l) H7:=fun H7 s7 x y l hx hy hl hlt=>by
  have b1:Bare "load" (.str "a"):=z1x (by simp);refine q l [x,y] [⟨"load",.str "a",7⟩,⟨"return",.non,8⟩] 0 _ cells' H7 hl (.cons hx<|.cons hy .nil) ?_ z3P (by decide) (by simp) (by simp) hlt hl' (s7 _ _ hT') (by lia) fun b o e hb=>s7 _ _ (kp b o e hb)
  exact (b1.good (by decide) (by decide) 0).put (kg _) QP (by decide) (by decide)
 have fin:nn.length<=140->k5<=90->Q (.ref p.r) H6:=fun h1 h2=>q p.r as nn k5 _ cells' H6 h3 h4 g6 (cK<|by lia) h2 hpos h1 g.tr.symm hl' hT' (by lia) kp
 refine⟨_,rfl,p.r,_,rfl,.inl<|SqL.of h3,_,_,rfl,rfl,_,rfl,?_⟩;have short:tTup (jg (tC<|.str "load")<|jg (tC<|.str "a")<|jg (tC<|.int 7) tNil) [some<|.ref p.a,some<|.ref p.t,some<|.ref p.r,some<|.ref p.m,v4,w4,z4] H6 (fun x H7=>tTup (jg (tC<|.str "return")<|jg (tC .non)<|jg (tC<|.int 8) tNil) [some<|.ref p.a,some<|.ref p.t,some<|.ref p.r,some<|.ref p.m,v4,w4,z4] H7 fun y H8=>[x,y].length<=sizeLine/\∀l,H8 l=none->Q (.ref l) (upd H8 l<|.lst [x,y])):=by
  refine⟨vX,fun x hx=>⟨vX,fun y hy=>⟨vX,fun l hl=>?_⟩⟩⟩;have sx:Same H6 (upd H6 x<|.tup [.str "load",.str "a",.int 7]):=ze hx _;have sy:=ze hy (.tup [.str "return",.non,.int 8]);have sl:=ze hl (.lst [.ref x,.ref y]);refine two _ (sx.trans<|sy.trans sl) x y l (sl _ _<|sy _ _ z7) (sl _ _ z7) z7 ?_;exact (zd (sy _ _<|sx _ _ hT') hl).symm
 refine ite2 (fun c1=>?_) (fun c1=>?_)
 ·exact iteT short
 ·have hn1:nn.length<=140:=by
   rw[hal] at c1;have:¬((140:Int) < (nn.length:Int)):=fun z=>c1 (kj z)
   lia
  refine⟨_,rfl,p.m,_,rfl,.inl<|SqL.of t6.gs.marks,_,_,rfl,rfl,_,rfl,?_⟩;refine ite2 (fun c2=>short) (fun c2=>?_);rw[Zn] at c2;have hk:k5<=90:=by
   have:¬((90:Int) < (k5:Int)):=fun z=>c2 (kj z)
   lia
  exact⟨_,rfl,fin hn1 hk⟩
def zbl:zj ["_law_script","_law_town_here"] ["_law_script","_law_town_here"] (zc<|top 114):=fsM
inductive z2o(K:ku)(vs:List V)(H:Hp)(Q:VK)(E:XK):Prop
|mk (a t:Aa) (ns:List Int) (c:Nat) (cells:List Int):vs=[.ref a,.ref t]->Scr K H a (ns.map V.int)->ns.length<=1000->cells.length=ns.length->H t=some (.lst<|qM c cells)->c<=80->(∀(l:Aa)(as:List Aa)(rs:List Row)(k c':Nat)(cells':List Int) H',H' l=some (.lst<|as.map V.ref)->zI H' as rs->Good 0 k rs->(∃Γ:Int->Option Sta,(∀m,Γ m≠none->0<=m/\m < (k:Int))/\chk Γ rs (some (0,[]))=some none)->k<=90->1<=rs.length->rs.length<=140->l≠t->cells'.length=ns.length->H' t=some (.lst<|qM c' cells')->c'<=14000->Zk H H' t->Q (.ref l) H')->z2o K vs H Q E
def z8G(D:zn K mg "_law_some_code" (top 114))(S:jH P w K mg base)(FE:FN P w K mg base 17 "_law_dense" Vd (z1J K))(FC:FN P w K mg base 17 "_law_code" Ve (ZN K)):FN P w K mg base 18 "_law_some_code" Vd (z2o K):=by
 refine FN.o D zbl ?_;rintro _ _ _ _ _ _ _ _ _ hr ⟨a,t,ns,c,cells,rfl,hS,hns,hcl,hT,hc,q⟩;have hr1:=hr.mono (vW:1<=17);refine⟨_,z6 (zV (zo qX (zk S.draw hr1 rfl<|pa3 (pvX 0) (pvX 1) zb) zb<|zy _) (z8<|zl<|zk FE hr rfl<|pa2 (pvX 0)<|pvX 1) zC)
  (z8<|zl<|zk FC hr rfl<|pa3 (pvX 0) (pvX 1) zb),?_⟩
 symm
 refine⟨_,rfl,_,rfl,a,t,ns,c,cells,2,rfl,hS,hns,hcl,hT,by lia,by decide,by decide,fun i cells1 H1 i0 i1 l1 hT1 k1=>?_⟩;have hS1:=hS.keep1 k1 hT;refine⟨rfl,_,rfl,?_⟩;refine ite2 (fun _=>?_) (fun _=>?_)
 ·exact⟨_,rfl,_,rfl,a,t,ns,c+1,cells1,rfl,hS1,hns,l1,hT1,by lia,fun l as rs k c' cells' H' h1 h2 h3 h4 h5 h6 h7 h8 h9 h10 h11 h12=>q l as rs k c' cells' H' h1 h2 h3 h4 h5 h6 h7 h8 h9 h10 h11 fun b o e hb=>h12 b o (k1 b o e hb) hb⟩
 ·exact⟨_,rfl,_,rfl,a,t,ns,c+1,cells1,3,rfl,hS1,hns,l1,hT1,by lia,by decide,by decide,fun l as rs k c' cells' H' h1 h2 h3 h4 h5 h6 h7 h8 h9 h10 h11 h12=>q l as rs k c' cells' H' h1 h2 h3 h4 h5 h6 h7 h8 h9 h10 (by lia) fun b o e hb=>h12 b o (k1 b o e hb) hb⟩
end
def Qp{Γ Γ':Int->Option Sta}(hs:∀m,Γ m≠none->Γ' m=Γ m):∀(l:List Row)(c c':Option Sta),(∀r∈l,r.op="label"->Γ' (argM r.arg)=Γ (argM r.arg))->chk Γ l c=some c'->chk Γ' l c=some c'
|[],c,c',_,h=>h
|r::l,c,c',hl,h=>by
  have hl':∀x∈l,x.op="label"->Γ' (argM x.arg)=Γ (argM x.arg):=fun x hx=>hl x (kR _ hx)
  unfold chk at h ⊢
  by_cases e:r.op="label"
  ·rw[kz e] at h ⊢
   rw[hl r (kQ ..) e];generalize Γ (argM r.arg)=o at h ⊢
   cases o with
  |none=>
    cases c with
   |none=>exact Qp hs l _ _ hl' h
   |some s=>cases h
  |some s=>
    cases c with
   |none=>
     dsimp only at h ⊢
     by_cases k:jk r s=true
     ·rw[kz k] at h ⊢;exact Qp hs l _ _ hl' h
     ·rw[ky k] at h;cases h
   |some s'=>
     dsimp only at h ⊢
     by_cases k:s=s'/\jk r s=true
     ·rw[kz k] at h ⊢;exact Qp hs l _ _ hl' h
     ·rw[ky k] at h;cases h
  ·rw[ky e] at h ⊢
   cases c with
  |none=>exact Qp hs l _ _ hl' h
  |some s=>
    dsimp only at h ⊢
    by_cases k:jk r s=true/\(tgts r s).all (fun t=>decide (Γ t.1=some t.2))=true
    ·have k':jk r s=true/\(tgts r s).all (fun t=>decide (Γ' t.1=some t.2))=true:=by
      refine⟨k.1,List.all_eq_true.mpr fun t ht=>?_⟩;have:=kD (List.all_eq_true.mp k.2 t ht)
      exact kj (by rw[hs t.1 (by rw[this];nofun),this])
     rw[kz k] at h;rw[kz k'];exact Qp hs l _ _ hl' h
    ·rw[ky k] at h;cases h
def zc2{rs:List Row}(row:∀r∈rs,jX r)(lab1:∀m:Nat,lab m rs<=1)(use:∀r∈rs,zx r.op=some ("mark":Str)->∃m:Nat,r.arg=.int (m:Int)/\lab m rs≠0)(h1:1<=rs.length)(h2:rs.length<=150):Code rs:=by
 refine⟨row,fun i r hi=>?_,h1,h2⟩;have hr:=kH hi;unfold jF;by_cases c:r.op="label"
 ·rw[kz c];obtain⟨m,hm,_⟩:=use r hr (by rw[c];exact j4);rw[hm];show decide (zA rs (m:Int)=some i)=true;exact kj (Z5 rs i r hi (by show (decide (r.op="label")&&decide (r.arg=.int (m:Int)))=true;rw[kj c,kj hm];rfl)<|lab1 m)
 ·rw[ky c];by_cases c2:zx r.op=some ("mark":Str)
  ·rw[kz c2];obtain⟨m,hm,hl⟩:=use r hr c2;rw[hm];exact jU hl
  ·rw[ky c2]
def ZP{op:Str}{v:V}{ln:Int}{s:Str}(hs:zx op=some s)(hf:qk s v=true)(l0:0<=ln)(l1:ln<=9999):jX ⟨op,v,ln⟩:=by
 show rowV op v (.int ln)=true;unfold rowV Zh;rw[hs];show (true&&qk s v&&zW (.int ln) 0 9999)=true;rw[hf];show (decide (0<=ln)&&decide (ln<=9999))=true;rw[kj l0,kj l1];rfl
structure QH(l:List Row):Prop where
 row:∀r∈l,jX r/\zx r.op≠some ("mark":Str)/\(r.op="push"->okV r.arg=true)
 go:∀Γ,chk Γ l (some (0,[]))=some (some (0,[]))
def QH.nil:QH []:=⟨(fun r h=>by cases h),fun _=>rfl⟩
def QH.app{a b:List Row}(x:QH a)(y:QH b):QH (a++b):=
 ⟨fun r h=>(kS.mp h).elim (x.row r)<|y.row r,fun Γ=>by rw[zp,x.go Γ];exact y.go Γ⟩
def z55(Γ:Int->Option Sta){v:V}{a b:Int}:chk Γ [⟨"push",v,a⟩,⟨"tell",.non,b⟩] (some (0,[]))=some (some (0,[]))/\chk Γ [⟨"push",v,a⟩,⟨"drop",.non,b⟩] (some (0,[]))=some (some (0,[]))/\∀u,chk Γ [⟨"push",v,a⟩,⟨"store",u,b⟩] (some (0,[]))=some (some (0,[])):=by
 refine⟨by rfl,by rfl,fun u=>by rfl⟩
noncomputable def hdR:List Row:=[⟨"label",.int 98,1⟩,⟨"load",.str "a",1⟩,⟨"iffalse",.int 99,2⟩]
noncomputable def tlR:List Row:=[⟨"push",.bl false,60⟩,⟨"store",.str "a",60⟩,⟨"jump",.int 98,61⟩,⟨"label",.int 99,62⟩]
def z8q{v:V}(hv:zU v=true)(ho:okV v=true){op:Str}(h:op="tell"\/op="drop"){a b:Int}(a0:0<=a)(a1:a<=9999)(b0:0<=b)(b1:b<=9999):QH [⟨"push",v,a⟩,⟨op,.non,b⟩]:=by
 refine⟨fun r hr=>?_,fun Γ=>?_⟩
 ·rcases kE.mp hr with rfl|hr
  ·exact⟨ZP (s:="value") vW (by unfold qk;rw[kz rfl];exact hv) a0 a1,by show zx "push"≠_;decide+kernel,fun _=>ho⟩
  ·rw[ko.mp hr];rcases h with rfl|rfl
   ·exact⟨ZP (s:="none") vW vW b0 b1,by show zx "tell"≠_;decide+kernel,fun z=>vd z<|by show ¬(("tell":Str)="push");decide+kernel⟩
   ·exact⟨ZP (s:="none") vW vW b0 b1,by show zx "drop"≠_;decide+kernel,fun z=>vd z<|by show ¬(("drop":Str)="push");decide+kernel⟩
 ·rcases h with rfl|rfl
  ·exact (z55 Γ).1
  ·exact (z55 Γ).2.1
def zaj{u:V}(hu:ZV u=true):QH [⟨"push",.int 0,50⟩,⟨"store",u,50⟩]:=by
 refine⟨fun r hr=>?_,fun Γ=>(z55 Γ).2.2 u⟩;rcases kE.mp hr with rfl|hr
 ·exact⟨ZP (s:="value") vW vW (by decide) (by decide),by show zx "push"≠_;decide+kernel,fun _=>rfl⟩
 ·rw[ko.mp hr];exact⟨ZP (s:="name") vW (by unfold qk;rw[ky vW,kz rfl];exact hu) (by decide) (by decide),by show zx "store"≠_;decide+kernel,fun z=>vd z<|by show ¬(("store":Str)="push");decide+kernel⟩
def isl(m n:Nat)(l:Int):ZE m ⟨"label",.int (n:Int),l⟩=decide (m=n):=by
 unfold ZE;rw[vT];simp;lia
def isn(m:Nat){op:Str}(v:V)(l:Int)(h:op≠"label"):ZE m ⟨op,v,l⟩=false:=by
 unfold ZE;rw[ki h];rfl
def zaq(m:Nat):lab m hdR=if m=98 then 1 else 0:=by
 unfold lab hdR;rw[Aj,Aj,Aj,List.countP_nil,isn m _ _ vW,isn m _ _ vW,show ZE m ⟨"label",.int 98,1⟩=decide (m=98) from isl m 98 1];by_cases h:m=98 <;> simp[h]
def zap(m:Nat):lab m tlR=if m=99 then 1 else 0:=by
 unfold lab tlR;rw[Aj,Aj,Aj,Aj,List.countP_nil,show ZE m ⟨"label",.int 99,62⟩=decide (m=99) from isl m 99 62,isn m (op:="jump") _ _ vW,isn m (op:="store") _ _ vW,isn m (op:="push") _ _ vW];by_cases h:m=99 <;> simp[h]
def z8u{l:List Row}(h:QH l)(m:Nat):lab m l=0:=by
 unfold lab;rw[List.countP_eq_zero];intro r hr;have h2:=(h.row r hr).2.1;obtain⟨op,v,ln⟩:=r;rw[isn m v ln fun z=>h2<|by show zx op=_;rw[z];exact j4];nofun
structure z5L(rs:List Row):Prop where
 code:Code rs
 st:∃fin,Zz rs=some fin/\fin.length=rs.length
 push:z1z rs
def z54{k:Nat}{rs:List Row}(g:Good 0 k rs):z1z rs:=fun r hr h=>by
 obtain⟨s,_,_,_,hp,_⟩:=g.row r hr;exact hp.1 h
def z0n{k:Nat}{rs:List Row}(g:Good 0 k rs)(hchk:∃Γ:Int->Option Sta,(∀m,Γ m≠none->0<=m/\m < (k:Int))/\chk Γ rs (some (0,[]))=some none)(hk:k<=90)(h1:1<=rs.length)(h2:rs.length<=140):z5L rs:=by
 obtain⟨S,T⟩:=g.typed hchk;obtain⟨fin,e1,e2,_⟩:=z0J T (by lia);exact⟨g.code hk h1 (by lia),⟨fin,e1,e2⟩,z54 g⟩
def z0x:∀r∈hdR++tlR,jX r/\(zx r.op=some ("mark":Str)->r.arg=.int ((98:Nat):Int)\/r.arg=.int ((99:Nat):Int))/\(r.op="push"->okV r.arg=true):=by
 have h:∀r∈hdR++tlR,rowV r.op r.arg (.int r.line)=true/\(zx r.op=some ("mark":Str)->r.arg=.int ((98:Nat):Int)\/r.arg=.int ((99:Nat):Int))/\(r.op="push"->okV r.arg=true):=by
  intro r hr;simp only[hdR,tlR,List.cons_append,List.nil_append,kE,kq,or_false] at hr;rcases hr with rfl|rfl|rfl|rfl|rfl|rfl|rfl <;> exact⟨vW,vW,vW⟩
 exact h
def z3u{k:Nat}{mid more:List Row}(M:QH mid)(g:Good 0 k more)(hchk:∃Γ:Int->Option Sta,(∀m,Γ m≠none->0<=m/\m < (k:Int))/\chk Γ more (some (0,[]))=some none)(hk:k<=90)(h1:1<=more.length)(h2:more.length<=140)(hz:(hdR++mid++tlR++more).length<=150):z5L (hdR++mid++tlR++more):=by
 have L:=z0n g hchk hk h1 h2;have labs:∀m,lab m (hdR++mid++tlR++more)=(if m=98 then 1 else 0)+(if m=99 then 1 else 0)+lab m more:=fun m=>by
  rw[zS,zS,zS,zaq,z8u M,zap];lia
 have hI:=g.labI;have hmem:∀r∈hdR++mid++tlR++more,r∈hdR++tlR\/r∈mid\/r∈more:=fun r hr=>by
  rcases kS.mp hr with hr|hr
  ·rcases kS.mp hr with hr|hr
   ·rcases kS.mp hr with hr|hr
    ·exact .inl (kO _ hr)
    ·exact .inr (.inl hr)
   ·exact .inl (kN _ hr)
  ·exact .inr (.inr hr)
 have hC:Code (hdR++mid++tlR++more):=by
  refine zc2 (fun r hr=>?_) (fun m=>?_) (fun r hr hs=>?_) (by rw[km];lia) hz
  ·rcases hmem r hr with h|h|h
   ·exact (z0x r h).1
   ·exact (M.row r h).1
   ·exact L.code.ok r h
  ·rw[labs];have:=g.lab1 m
   have:=hI m
   split <;> split <;> lia
  ·rcases hmem r hr with h|h|h
   ·rcases (z0x r h).2.1 hs with e|e
    ·exact⟨98,e,by rw[labs];simp⟩
    ·exact⟨99,e,by rw[labs];simp⟩
   ·exact vd hs (M.row r h).2.1
   ·obtain⟨s,hs',_,_,_,hh⟩:=g.row r h;rw[hs] at hs';cases hs';rcases hh with ⟨_,m,hm⟩|⟨hn,_⟩
    ·exact⟨m,hm,by rw[labs];have:=g.mark h hs hm;lia⟩
    ·exact vd rfl hn
 obtain⟨Γ,hΓ,hchk⟩:=hchk;have hT:∃S,z5J (hdR++mid++tlR++more) S:=by
  refine⟨_,z2j (Γ:=fun m=>if m=98\/m=99 then some (0,[]) else Γ m) (fun m s e=>?_) ?_⟩
  ·by_cases c:m=98\/m=99
   ·rcases c with rfl|rfl
    ·exact jU (show lab 98 _≠0 by rw[labs];simp)
    ·exact jU (show lab 99 _≠0 by rw[labs];simp)
   ·have e:Γ m=some s:=by have e:(if m=98\/m=99 then some (0,[]) else Γ m)=some s:=e;rw[ky c] at e;exact e
    obtain⟨a,b⟩:=hΓ m (by rw[e];nofun);obtain⟨j,rfl⟩:=kZ a;exact jU (show lab j _≠0 by rw[labs];have:=g.labA j (vj _) (by lia);lia)
  ·rw[zp,zp,zp];have e1:chk (fun m=>if m=98\/m=99 then some (0,[]) else Γ m) hdR (some (0,[]))=some (some (0,[])):=by rfl
   have e2:chk (fun m=>if m=98\/m=99 then some (0,[]) else Γ m) tlR (some (0,[]))=some (some (0,[])):=by rfl
   rw[e1];show Option.bind (Option.bind (chk _ mid<|some (0,[])) _) _=_;rw[M.go];show Option.bind (chk _ tlR<|some (0,[])) _=_;rw[e2];refine Qp (fun m hm=>?_) _ _ _ (fun r hr hl=>?_) hchk
   ·obtain⟨a,b⟩:=hΓ m hm;exact ky (by lia)
   ·obtain⟨s,hs',_,_,_,hh⟩:=g.row r hr;rw[hl,j4] at hs';cases hs';rcases hh with ⟨_,m,hm⟩|⟨hn,_⟩
    ·have:=(hI m<|g.mark hr (by rw[hl];exact j4) hm).2
     rw[hm];exact ky (by show ¬((m:Int)=98\/(m:Int)=99);lia)
    ·exact vd rfl hn
 obtain⟨S,T⟩:=hT;obtain⟨fin,e1,e2,_⟩:=z0J T (by lia);refine⟨hC,⟨fin,e1,e2⟩,fun r hr hp=>?_⟩;rcases hmem r hr with h|h|h
 ·exact (z0x r h).2.2 hp
 ·exact (M.row r h).2.2 hp
 ·exact L.push r h hp
end My
namespace L2
inductive z9R(x:V)(y:V)(H:Hp)(Q:VK):Prop
|mk (z:_) (k:_):x=.str z->y=.int k->MulOk z k->Q (.str<|Txt.mul z k) H->z9R x y H Q
def z4v{X:Cx}:OpR X (binaryOp .Mult) z9R:=by
 intro vY s σ H x y v u Q I rx ry h;obtain⟨z,k,rfl,rfl,ok,q⟩:=h;obtain⟨t,rfl⟩:=rx;obtain⟨t',rfl⟩:=ry;exact SB.mul ok fun t'' k'=>⟨.str _,H,I.tok _,⟨_,rfl⟩,q⟩
end L2
namespace My
open L2
variable {P:Program}{w:World}{K:ku}{mg:Str->Option Ab}{base:Heap}
structure LgS(H H4:Hp)(t rl:Aa)(ns:List Int)(c:Nat)(rs:List Row):Prop where
 twn:∃cells:List Int,cells.length=ns.length/\H4 t=some (.lst<|qM c cells)
 keep:Zk H H4 t
 free:H rl=none
 ne:rl≠t
 rows:∃as,H4 rl=some (.lst<|as.map V.ref)/\zI H4 as rs
section
variable {H H4 H5:Hp}{t rl:Aa}{ns:List Int}{c:Nat}{rs:List Row}
def LgS.drawn{cells:List Int}(g:LgS H H4 t rl ns c rs)(hl:cells.length=ns.length)(hT:H5 t=some (.lst<|qM (c+1) cells))(k:Zk H4 H5 t):LgS H H5 t rl ns (c+1) rs:=by
 obtain⟨⟨cells0,_,hT0⟩,kp,fr,ne,as,h1,h2⟩:=g;exact⟨⟨cells,hl,hT⟩,fun b o e hb=>k _ _ (kp b o e hb) hb,fr,ne,as,k _ _ h1 ne,h2.keep fun a xs e=>k _ _ e fun z=>by rw[z,hT0] at e;cases e⟩
def LgS.new{p:Aa}(g:LgS H H4 t rl ns c rs)(hp:H4 p=none)(o:HO):LgS H (upd H4 p o) t rl ns c rs:=by
 obtain⟨⟨cells0,e0,hT0⟩,kp,fr,ne,as,h1,h2⟩:=g;have s:=ze hp o;exact⟨⟨cells0,e0,s _ _ hT0⟩,fun b o e hb=>s _ _<|kp b o e hb,fr,ne,as,s _ _ h1,h2.same s⟩
def LgS.put{p:Aa}{r:Row}{as:List Aa}(g:LgS H H4 t rl ns c rs)(hp:H4 p=some (.tup<|tupV r))(h:H4 rl=some (.lst<|as.map V.ref))(hR:zI H4 as rs):LgS H (upd H4 rl<|.lst (as.map V.ref++[.ref p])) t rl ns c (rs++[r]):=by
 obtain⟨⟨cells0,e0,hT0⟩,kp,fr,ne,_⟩:=g;have k:∀a xs,H4 a=some (.tup xs)->(upd H4 rl<|.lst (as.map V.ref++[.ref p])) a=some (.tup xs):=fun a xs e=>by rw[zg fun z=>by rw[z,h] at e;cases e];exact e
 refine⟨⟨cells0,e0,by rw[zg ne.symm];exact hT0⟩,fun b o e hb=>by rw[zg fun z=>by rw[z,fr] at e;cases e];exact kp b o e hb,fr,ne,as++[p],by rw[z7,kK];rfl,(hR.keep k).append<|.cons (k _ _ hp) .nil⟩
end
def z6x:∀k:Nat,k < 30->(MulOk "k" (1+(k:Int) % 8)/\zU (.str<|Txt.mul "k" (1+(k:Int) % 8))=true/\okV (.str<|Txt.mul "k" (1+(k:Int) % 8))=true):=by
 have h:∀k:Nat,k < 30->((decide (1+(k:Int) % 8 < -(2 ^ 63:Int))||decide (1+(k:Int) % 8≥2 ^ 63))=false/\(¬1+(k:Int) % 8 < 1->(1+(k:Int) % 8 == 1||("k":Str).length == 0)=false->¬((("k":Str).length:Int) > (2 ^ 63 - 1) / (1+(k:Int) % 8)))/\
  (¬1+(k:Int) % 8 < 1->(1+(k:Int) % 8 == 1||("k":Str).length == 0)=false->Builtin.Str.tooLong (("k":Str).length * (1+(k:Int) % 8).toNat)=false)):=vW
 have h2:∀k:Nat,k < 30->(zU (.str<|Txt.mul "k" (1+(k:Int) % 8))=true/\okV (.str<|Txt.mul "k" (1+(k:Int) % 8))=true):=vW;exact fun k hk=>⟨h k hk,h2 k hk⟩
noncomputable def abc:Str:="abcdefghijklmnopqrstuvwxyz"
def z8r:∀k:Nat,k < 30->∃c,atI abc.cps.toList ((k:Int) % 26)=some c/\MulOk ⟨#[c]⟩ 2/\ZV (.str<|Txt.mul ⟨#[c]⟩ 2)=true:=by
 have h:∀k:Nat,k < 30->(atI abc.cps.toList ((k:Int) % 26)).isSome=true/\ZV (.str<|Txt.mul ⟨#[(atI abc.cps.toList ((k:Int) % 26)).getD 0]⟩ 2)=true:=vW;intro k hk;obtain⟨h1,h2⟩:=h k hk;obtain⟨c,e⟩:=Ag.mp h1;rw[e] at h2;exact⟨c,e,⟨by decide,fun _ _=>by show ¬((1:Int) > (2 ^ 63 - 1) / 2);decide,fun _ _=>by show Builtin.Str.tooLong (1 * 2)=false;decide+kernel⟩,h2⟩
section
inductive z2q(K:ku)(vs:List V)(H:Hp)(Q:VK)(E:XK):Prop
|mk (a t:Aa) (ns:List Int) (c:Nat) (cells:List Int):vs=[.ref a,.ref t]->Scr K H a (ns.map V.int)->ns.length<=1000->cells.length=ns.length->H t=some (.lst<|qM c cells)->c<=19900->(∀(l:Aa)(as:List Aa)(rs:List Row)(c':Nat)(cells':List Int) H',H' l=some (.lst<|as.map V.ref)->zI H' as rs->z5L rs->l≠t->cells'.length=ns.length->H' t=some (.lst<|qM c' cells')->c'<=c+14000->Zk H H' t->Q (.ref l) H')->z2q K vs H Q E
noncomputable abbrev N115:List Str:=["_law_script","_law_town_here","_law_rows","_law_k","_law_value_here","_law_more"]
def z3c:zj N115 ["_law_script","_law_town_here"] (zc<|top 115):=fsM
def z8Q(D:zn K mg "_law_long_code" (top 115))(G:Glo mg)(S:jH P w K mg base)(FC:FN P w K mg base 17 "_law_code" Ve (ZN K)):FN P w K mg base 18 "_law_long_code" Vd (z2q K):=by
 refine FN.o D z3c ?_;rintro _ _ _ _ _ H _ _ _ hr ⟨a,t,ns,c,cells,rfl,hS,hns,hcl,hT,hc,q⟩;have hr1:=hr.mono (vW:1<=17);have hr2:=hr.mono (vW:2<=17);have FP:=S.pick;refine'⟨_,z6 _ _,_⟩
 rotate_left 2
 ·refine' jR (i:=2) _ _ _ _
  rotate_left
  ·exact z3c.nd
  ·rfl
  ·exact Or.inl rfl
  ·refine' zO _
   rotate_left
   refine' zf _ _
   rotate_left 2
   ·exact zY (pa3 zh zb zb)
   refine' zf _ _
   rotate_left 2
   ·exact zY (pa3 zh zh zb)
   refine' zf _ _
   rotate_left 2
   ·exact zY (pa3 zh zb zb)
   exact qC
 ·refine' z6 _ _
  rotate_left 2
  ·refine' qQ vo rfl _ _ _
   rotate_left 3
   ·exact qB rfl G.range (pa1<|zk S.draw hr1 rfl<|pa3 (pv 0) (pv 1) zb)
   ·exact zL 3 z3c.nd
   ·refine' z6 _ _
    rotate_left 2
    ·refine' jR (i:=4) _ _ _ _
     rotate_left
     ·exact z3c.nd
     ·rfl
     ·exact Or.inl rfl
     ·refine' zk FP _ _ _
      rotate_left
      ·exact hr2
      ·rfl
      ·refine' zf _ _
       rotate_left 2
       ·exact pv 0
       refine' zf _ _
       rotate_left 2
       ·exact pv 1
       refine' zf _ _
       rotate_left 2
       ·refine' zO _
        rotate_left
        refine' zf _ _
        rotate_left 2
        ·exact pv 3
        refine' zf _ _
        rotate_left 2
        ·exact Qi jO (pv 3)
        refine' zf _ _
        rotate_left 2
        ·exact zE z0X (pv 3) zb
        refine' zf _ _
        rotate_left 2
        ·exact Z2
        refine' zf _ _
        rotate_left 2
        ·exact zb
        refine' zf _ _
        rotate_left 2
        ·exact Z2
        refine' zf _ _
        rotate_left 2
        ·exact zb
        refine' zf _ _
        rotate_left 2
        ·exact qR
        refine' zf _ _
        rotate_left 2
        ·exact zE z4v zh (zE qT zb<|zE jJ (pv 3) zb)
        exact qC
       exact qC
    refine' z6 _ _
    rotate_left 2
    ·exact zi (jS (pv 2)<|pa1<|zY<|pa3 zh (pv 4)<|zE qT zb<|zE jM (pv 3) zb)
    refine' z6 _ _
    rotate_left 2
    ·exact zi (jS (pv 2)<|pa1<|zY<|pa3 (zk FP hr2 rfl<|pa3 (pv 0) (pv 1)<|zO<|pa3 zh zh zh) qR<|zE qT zb<|zE jM (pv 3) zb)
    refine' z8 _
    rotate_left
    ·refine' zV _ _ _
     rotate_left 3
     ·exact zo qX (zE jJ (pv 3) zb) zb (zy _)
     ·refine' z6 _ _
      rotate_left 2
      ·exact zi (jS (pv 2)<|pa1<|zY<|pa3 zh zb zb)
      ·exact z8 (zi<|jS (pv 2)<|pa1<|zY<|pa3 zh (zE z4v (zG zax zh<|zE jJ (pv 3) zb) zb) zb)
     ·exact zC
  refine' z6 _ _
  rotate_left 2
  ·refine' jR (i:=2) _ _ _ _
   rotate_left
   ·exact z3c.nd
   ·rfl
   ·exact Or.inl rfl
   ·refine' zE _ _ _
    rotate_left 3
    ·exact Zv
    ·exact pv 2
    ·refine' zO _
     rotate_left
     refine' zf _ _
     rotate_left 2
     ·exact zY (pa3 zh Z2 zb)
     refine' zf _ _
     rotate_left 2
     ·exact zY (pa3 zh zh zb)
     refine' zf _ _
     rotate_left 2
     ·exact zY (pa3 zh zb zb)
     refine' zf _ _
     rotate_left 2
     ·exact zY (pa3 zh zb zb)
     exact qC
  exact z6 (zM 5 z3c.nd<|zk FC hr rfl<|pa3 (pv 0) (pv 1) zb)
   (z8<|zl<|j9 (zo z1X (zE qT (zq zr rfl G.len zK<|pa1<|pv 2)<|zq zr rfl G.len zK<|pa1<|pv 5) zb<|zy _) (zE Zv (pv 2)<|pv 5)<|pv 5)
 have two3:(3:Nat)<=sizeLine:=by decide
 refine⟨two3,fun p1 h1=>⟨two3,fun p2 h2=>⟨two3,fun p3 h3=>⟨two3,fun rl h4=>?_⟩⟩⟩⟩;have s1:=ze h1 (.tup [.str "label",.int 98,.int 1]);have s2:=ze h2 (.tup [.str "load",.str "a",.int 1]);have s3:=ze h3 (.tup [.str "iffalse",.int 99,.int 2]);have s4:=ze h4 (.lst [.ref p1,.ref p2,.ref p3]);have s34:=s3.trans s4;have s24:=s2.trans s34;have s14:=s1.trans s24;have g0:LgS H (upd (upd (upd (upd H p1<|.tup [.str "label",.int 98,.int 1]) p2<|.tup [.str "load",.str "a",.int 1]) p3<|.tup [.str "iffalse",.int 99,.int 2]) rl<|.lst [.ref p1,.ref p2,.ref p3]) t rl ns c (hdR++[]):=
  ⟨⟨cells,hcl,s14 _ _ hT⟩,fun b o e _=>s14 b o e,(s1.trans<|s2.trans s3).free h4,(zd ((s1.trans<|s2.trans s3) _ _ hT) h4).symm,[p1,p2,p3],z7,.cons (s24 _ _ z7)<|.cons (s34 _ _ z7)<|.cons (s4 _ _ z7) .nil⟩
 generalize upd (upd (upd (upd H p1<|.tup [.str "label",.int 98,.int 1]) p2<|.tup [.str "load",.str "a",.int 1]) p3<|.tup [.str "iffalse",.int 99,.int 2]) rl (.lst [.ref p1,.ref p2,.ref p3])=H0 at g0;clear s1 s2 s3 s4 s34 s24 s14 h1 h2 h3 h4;have scr:∀{H4:Hp},Zk H H4 t->Scr K H4 a (ns.map V.int):=fun k=>hS.keep1 k hT
 obtain⟨cells0,e0,hT0⟩:=g0.twn;refine⟨a,t,ns,c,cells0,30,rfl,scr g0.keep,hns,e0,hT0,by lia,by decide,by decide,fun j cells1 H1 j0 j1 hl1 hT1 k1=>?_⟩;have g1:=g0.drawn hl1 hT1 k1;refine⟨j,rfl,by lia,by lia,qJ (lo:=0) (n:=j.toNat) (fun i σ H4=>∃v3 v4 mid,σ=[some<|.ref a,some<|.ref t,some<|.ref rl,v3,v4,none]/\LgS H H4 t rl ns (c+1+2 * i) (hdR++mid)/\QH mid/\mid.length<=4 * i) ⟨none,none,[],rfl,g1,QH.nil,kg _⟩ ?_ ?_⟩
 ·rintro i σ H4 hi ⟨v3,v4,mid,rfl,g,M,hml⟩;rw[show (0:Int)+(i:Int)=i by lia];have hi30:i < 30:=by lia
  obtain⟨ok1,ok2,ok3⟩:=z6x i hi30;have dv:∀k:Nat,(k:Int) / 3=((k / 3:Nat):Int):=fun k=>by lia
  refine⟨_,rfl,_,_,rfl,rfl,.inr ⟨by decide,by decide⟩,_,_,rfl,rfl,by show (0:Int) < 8;decide,_,_,rfl,rfl,_,_,rfl,rfl,ok1,vX,fun p hp=>?_⟩;have gp:=g.new hp (.lst [.int (i:Int),.int (-(i:Int)),.int ((i:Int) * 1000),.bl true,.int 1,.bl false,.int 0,.non,.str<|Txt.mul "k" (1+(i:Int) % 8)]);obtain⟨cells4,e4,hT4⟩:=gp.twn;refine⟨a,t,p,ns,_,cells4,_,rfl,scr gp.keep,hns,e4,hT4,by lia,z7,?_,by show 1<=9;decide,by show 9<=1000;decide,fun v cells5 H5 hv hl5 hT5 k5=>?_⟩
  ·obtain⟨cells4',_,hT4'⟩:=g.twn;exact (zd hT4' hp).symm
  have hvo:zU v=true/\okV v=true:=by
   have hin:∀x:Int,-100000<=x->x<=100000->zU (.int x)=true/\okV (.int x)=true:=fun x a b=>by
    refine⟨?_,rfl⟩;unfold zU QT zW;simp only[Bool.or_eq_true,yd,ye];exact .inl (.inr ⟨by lia,by lia⟩)
   simp only[kE,kq,or_false] at hv;rcases hv with rfl|rfl|rfl|rfl|rfl|rfl|rfl|rfl|rfl
   ·exact hin _ (by lia) (by lia)
   ·exact hin _ (by lia) (by lia)
   ·exact hin _ (by lia) (by lia)
   ·exact⟨vW,rfl⟩
   ·exact hin _ (by lia) (by lia)
   ·exact⟨vW,rfl⟩
   ·exact hin _ (by lia) (by lia)
   ·exact⟨vW,rfl⟩
   ·exact⟨ok2,ok3⟩
  have g5:=gp.drawn hl5 hT5 k5;obtain⟨as5,hr5,hR5⟩:=g5.rows;have lz:as5.length=3+mid.length:=by rw[hR5.len,km];rfl
  refine⟨.inl ⟨rfl,_,SqL.of hr5⟩,_,_,rfl,rfl,⟨by decide,by decide⟩,_,_,rfl,rfl,two3,fun p6 hp6=>?_⟩;have g6:=g5.new hp6 (.tup [.str "push",v,.int (3+(i:Int) / 3)]);have s6:=ze hp6 (.tup [.str "push",v,.int (3+(i:Int) / 3)]);refine⟨rl,_,_,rfl,rfl,s6 _ _ hr5,zF (by rw[kl];lia),?_⟩;have g7:=g6.put (r:=⟨"push",v,3+(i:Int) / 3⟩) z7 (s6 _ _ hr5) (hR5.same s6);obtain⟨as7,hr7,hR7⟩:=g7.rows;have l7:as7.length=4+mid.length:=by rw[hR7.len,km,km];show 3+mid.length+1=_;lia
  generalize upd (upd H5 p6<|.tup [.str "push",v,.int (3+(i:Int) / 3)]) rl (.lst (as5.map V.ref++[.ref p6]))=H7 at *;refine⟨.inl ⟨rfl,_,SqL.of hr7⟩,two3,fun p8 hp8=>?_⟩;have g8:=g7.new hp8 (.lst [.str "tell",.str "drop",.str "drop"]);obtain⟨cells8,e8,hT8⟩:=g8.twn;refine⟨a,t,p8,ns,_,cells8,_,rfl,scr g8.keep,hns,e8,hT8,by lia,z7,?_,by show 1<=3;decide,by show 3<=1000;decide,fun v9 cells9 H9 hv9 hl9 hT9 k9=>?_⟩
  ·obtain⟨cells7,_,hT7⟩:=g7.twn;exact (zd hT7 hp8).symm
  have g9:=g8.drawn hl9 hT9 k9;obtain⟨op,rfl,hop⟩:∃op:Str,v9=.str op/\(op="tell"\/op="drop"):=by
   simp only[kE,kq,or_false] at hv9;rcases hv9 with rfl|rfl|rfl
   ·exact⟨_,rfl,.inl rfl⟩
   ·exact⟨_,rfl,.inr rfl⟩
   ·exact⟨_,rfl,.inr rfl⟩
  obtain⟨as9,hr9,hR9⟩:=g9.rows;have l9:as9.length=4+mid.length:=by rw[hR9.len,km,km];show 3+mid.length+1=_;lia
  refine⟨_,_,rfl,rfl,⟨by decide,by decide⟩,_,_,rfl,rfl,two3,fun pa hpa=>?_⟩;have ga:=g9.new hpa (.tup [.str op,.non,.int (3+(i:Int) / 3)]);have sa:=ze hpa (.tup [.str op,.non,.int (3+(i:Int) / 3)]);refine⟨rl,_,_,rfl,rfl,sa _ _ hr9,zF (by rw[kl];lia),?_⟩;have gb:=ga.put (r:=⟨op,.non,3+(i:Int) / 3⟩) z7 (sa _ _ hr9) (hR9.same sa);generalize upd (upd H9 pa<|.tup [.str op,.non,.int (3+(i:Int) / 3)]) rl (.lst (as9.map V.ref++[.ref pa]))=Hb at *;have eb:hdR++mid++[⟨"push",v,3+(i:Int) / 3⟩]++[⟨op,.non,3+(i:Int) / 3⟩]=hdR++(mid++[⟨"push",v,3+(i:Int) / 3⟩,⟨op,.non,3+(i:Int) / 3⟩]):=by simp
  rw[eb] at gb;have Mb:=M.app (z8q hvo.1 hvo.2 hop (a:=3+(i:Int) / 3) (b:=3+(i:Int) / 3) (by lia) (by lia) (by lia)<|by lia);have lb:(mid++[(⟨"push",v,3+(i:Int) / 3⟩:Row),⟨op,.non,3+(i:Int) / 3⟩]).length=mid.length+2:=by rw[km];rfl
  generalize mid++[(⟨"push",v,3+(i:Int) / 3⟩:Row),⟨op,.non,3+(i:Int) / 3⟩]=mb at gb Mb lb;refine⟨_,_,rfl,rfl,by show (0:Int) < 5;decide,rfl,_,rfl,ite2 (fun c5=>?_) fun c5=>?_⟩
  ·obtain⟨asb,hrb,hRb⟩:=gb.rows;have lb2:asb.length=3+mb.length:=by rw[hRb.len,km];rfl
   obtain⟨ch,e1,e2,e3⟩:=z8r i hi30;refine⟨.inl ⟨rfl,_,SqL.of hrb⟩,two3,fun pc hpc=>?_⟩;have gc:=gb.new hpc (.tup [.str "push",.int 0,.int 50]);have sc:=ze hpc (.tup [.str "push",.int 0,.int 50]);refine⟨rl,_,_,rfl,rfl,sc _ _ hrb,zF (by rw[kl];lia),?_⟩;have gd:=gc.put (r:=⟨"push",.int 0,50⟩) z7 (sc _ _ hrb) (hRb.same sc);obtain⟨asd,hrd,hRd⟩:=gd.rows;have ld:asd.length=4+mb.length:=by rw[hRd.len,km,km];show 3+mb.length+1=_;lia
   generalize upd (upd Hb pc<|.tup [.str "push",.int 0,.int 50]) rl (.lst (asb.map V.ref++[.ref pc]))=Hd at *;refine⟨.inl ⟨rfl,_,SqL.of hrd⟩,_,_,rfl,rfl,by show (0:Int) < 26;decide,_,_,_,rfl,rfl,vX,e1,_,_,rfl,rfl,e2,two3,fun pe hpe=>?_⟩;have ge:=gd.new hpe (.tup [.str "store",.str<|Txt.mul ⟨#[ch]⟩ 2,.int 50]);have se:=ze hpe (.tup [.str "store",.str<|Txt.mul ⟨#[ch]⟩ 2,.int 50]);refine⟨rl,_,_,rfl,rfl,se _ _ hrd,zF (by rw[kl];lia),?_⟩;have gf:=ge.put (r:=⟨"store",.str<|Txt.mul ⟨#[ch]⟩ 2,50⟩) z7 (se _ _ hrd) (hRd.same se);have ef:hdR++mb++[⟨"push",.int 0,50⟩]++[⟨"store",.str<|Txt.mul ⟨#[ch]⟩ 2,50⟩]=hdR++(mb++[⟨"push",.int 0,50⟩,⟨"store",.str<|Txt.mul ⟨#[ch]⟩ 2,50⟩]):=by simp
   rw[ef] at gf;exact⟨_,_,_,rfl,gf,Mb.app<|zaj e3,by rw[km];show mb.length+2<=_;lia⟩
  ·exact⟨_,_,mb,rfl,gb,Mb,by lia⟩
 ·rintro σ H4 ⟨v3,v4,mid,rfl,g,M,hml⟩;obtain⟨as,hrl,hR⟩:=g.rows;have hal:as.length=3+mid.length:=by rw[hR.len,km];rfl
  refine⟨two3,fun p1 h1=>⟨two3,fun p2 h2=>⟨two3,fun p3 h3=>⟨two3,fun p4 h4=>⟨vX,fun p5 h5=>?_⟩⟩⟩⟩⟩;have s1:=ze h1 (.tup [.str "push",.bl false,.int 60]);have s2:=ze h2 (.tup [.str "store",.str "a",.int 60]);have s3:=ze h3 (.tup [.str "jump",.int 98,.int 61]);have s4:=ze h4 (.tup [.str "label",.int 99,.int 62]);have s5:=ze h5 (.lst [.ref p1,.ref p2,.ref p3,.ref p4]);have s45:=s4.trans s5;have s35:=s3.trans s45;have s25:=s2.trans s35;have s15:=s1.trans s25;have g5:=((((g.new h1<|.tup [.str "push",.bl false,.int 60]).new h2<|.tup [.str "store",.str "a",.int 60]).new h3<|.tup [.str "jump",.int 98,.int 61]).new h4<|.tup [.str "label",.int 99,.int 62]).new h5 (.lst [.ref p1,.ref p2,.ref p3,.ref p4]);have hRt:zI (upd (upd (upd (upd (upd H4 p1<|.tup [.str "push",.bl false,.int 60]) p2<|.tup [.str "store",.str "a",.int 60]) p3<|.tup [.str "jump",.int 98,.int 61]) p4<|.tup [.str "label",.int 99,.int 62]) p5<|.lst [.ref p1,.ref p2,.ref p3,.ref p4]) [p1,p2,p3,p4] tlR:=
   .cons (s25 _ _ z7) (.cons (s35 _ _ z7)<|.cons (s45 _ _ z7)<|.cons (s5 _ _ z7) .nil)
  refine⟨rl,p5,_,_,rfl,rfl,s15 _ _ hrl,z7,by rw[kl,sizeLine_eq];show as.length+4<=_;lia,fun l2 hl2=>?_⟩;have hR5:=hR.same s15;generalize upd (upd (upd (upd (upd H4 p1<|.tup [.str "push",.bl false,.int 60]) p2<|.tup [.str "store",.str "a",.int 60]) p3<|.tup [.str "jump",.int 98,.int 61]) p4<|.tup [.str "label",.int 99,.int 62]) p5 (.lst [.ref p1,.ref p2,.ref p3,.ref p4])=H5 at *;have s6:=ze hl2 (.lst (as.map V.ref++[.ref p1,.ref p2,.ref p3,.ref p4]));have g6:=g5.new hl2 (.lst (as.map V.ref++[.ref p1,.ref p2,.ref p3,.ref p4]));have hl6:(upd H5 l2<|.lst (as.map V.ref++[.ref p1,.ref p2,.ref p3,.ref p4])) l2=some (.lst<|(as++[p1,p2,p3,p4]).map V.ref):=by rw[z7,kK];rfl
  have hR6:zI (upd H5 l2<|.lst (as.map V.ref++[.ref p1,.ref p2,.ref p3,.ref p4])) (as++[p1,p2,p3,p4]) (hdR++mid++tlR):=(hR5.append hRt).same s6;obtain⟨cells5,e5,hT5⟩:=g5.twn;have nl2:l2≠t:=(zd hT5 hl2).symm;generalize upd H5 l2 (.lst (as.map V.ref++[.ref p1,.ref p2,.ref p3,.ref p4]))=H6 at *;obtain⟨cells6,e6,hT6⟩:=g6.twn;refine⟨a,t,ns,_,cells6,2,rfl,scr g6.keep,hns,e6,hT6,by lia,by decide,by decide,fun ml bs more k c7 cells7 H7 hm hRm gm hchk hk90 hm1 hm140 nmt hl7 hT7 hc7 k7=>?_⟩;have hl7':=k7 _ _ hl6 nl2;have hR7:zI H7 (as++[p1,p2,p3,p4]) (hdR++mid++tlR):=hR6.keep fun b xs e=>k7 _ _ e fun z=>by rw[z,hT6] at e;cases e
  have kp7:Zk H H7 t:=fun b o e hb=>k7 _ _ (g6.keep b o e hb) hb
  have hbl:bs.length=more.length:=hRm.len;have hlen7:(as++[p1,p2,p3,p4]).length=7+mid.length:=by rw[km,hal];show 3+mid.length+4=_;lia
  refine⟨l2,_,rfl,.inl<|SqL.of hl7',ml,_,rfl,.inl<|SqL.of hm,_,_,rfl,rfl,_,_,rfl,rfl,_,rfl,ite2 (fun cc=>?_) fun cc=>?_⟩
  ·have cc:decide ((((as++[p1,p2,p3,p4]).map V.ref).length:Int)+((bs.map V.ref).length:Int)<=150)=true:=cc;have cc:=kD cc;rw[kl,kl,hlen7] at cc;refine⟨l2,ml,_,_,rfl,rfl,hl7',hm,by rw[kl,kl,sizeLine_eq];lia,fun l8 hl8=>?_⟩;have s8:=ze hl8 (.lst ((as++[p1,p2,p3,p4]).map V.ref++bs.map V.ref));refine q l8 (as++[p1,p2,p3,p4]++bs) (hdR++mid++tlR++more) c7 cells7 _ (by rw[z7,kK (l₁:=as++[p1,p2,p3,p4])]) ((hR7.append hRm).same s8) (z3u M gm hchk hk90 hm1 hm140 ?_) (zd hT7 hl8).symm hl7 (s8 _ _ hT7) (by lia) fun b o e hb=>s8 _ _ (kp7 b o e hb)
   rw[km,km,km];show 3+mid.length+4+more.length<=150;lia
  ·exact q ml bs more c7 cells7 H7 hm hRm (z0n gm hchk hk90 hm1 hm140) nmt hl7 hT7 (by lia) kp7
end
structure Gr(rs:List Row)(S T:List Nat):Prop where
 len:T.length=rs.length
 le:Le T S
 zero:∀(i:Nat) r x,rs[i]?=some r->T[i]?=some x->(0 < x↔inT r.op opsU=true)
section
variable {rs:List Row}{S T T0:List Nat}
def Gr.le3(g:Gr rs S T)(L:Zr (numF rs) rs.length S):∀x∈T,x<=3:=by
 intro x hx;obtain⟨i,hi⟩:=List.mem_iff_getElem?.mp hx;have hil:i < S.length:=by rw[<-g.le.1];exact (kh.mp hi).1
 have:=g.le.2 i x S[i] hi (kL hil)
 have:=L.le3 _ (List.getElem_mem hil)
 lia
def z0H{i:Nat}{r:Row}(h:rs[i]?=some r):(szs (numF rs) T)[i]?=some (dgO<|nO rs T r).length:=by
 unfold szs;rw[Jj,Ak,vh,h];rfl
def z9C(hc:Code rs)(L:Zr (numF rs) rs.length S)(g:Gr rs S T){i:Nat}{r:Row}(h:rs[i]?=some r):∃x,S[i]?=some x/\(dgO<|nO rs T r).length<=x:=by
 have m:=JN (Qj hc) g.le g.len;rw[L.fix] at m;have hil:i < S.length:=by rw[L.len];exact (kh.mp h).1
 exact⟨S[i],kL hil,m.2 i _ _ (z0H h)<|kL hil⟩
def z7A(hc:Code rs)(hl:T.length=rs.length)(h3:∀x∈T,x<=3){r:Row}(hr:r∈rs){k:Nat}(h:nO rs T r=some k):k < 4096:=
 (Qj hc).lt T hl h3 k (yf.mpr ⟨r,hr,h⟩)
def Le.set{T0 T:List Nat}(h:Le T0 T){i x z:Nat}(hx:T[i]?=some x)(hz:x<=z):Le T0 (T.set i z):=by
 refine⟨by rw[vH];exact h.1,fun j a b e1 e2=>?_⟩;rw[vA] at e2;split at e2
 ·rename_i e
  subst e;have:=h.2 i a x e1 hx
  split at e2
  ·cases e2;lia
  ·cases e2
 ·exact h.2 j a b e1 e2
def z3X:∀{T:List Nat}{i x z:Nat},T[i]?=some x->(T.set i z).sum+x=T.sum+z
|[],_,_,_,h=>by cases h
|y::T,0,x,z,h=>by
  simp at h
  subst h;simp only[List.set_cons_zero,List.sum_cons];lia
|y::T,i+1,x,z,h=>by
  have:=z3X (T:=T) (i:=i) (x:=x) (z:=z) (by simpa using h)
  simp only[List.set_cons_succ,List.sum_cons];lia
def Gr.set(g:Gr rs S T){i x z y:Nat}{r:Row}(hr:rs[i]?=some r)(hop:inT r.op opsU=true)(hz0:0 < z)(hy:S[i]?=some y)(hzy:z<=y):Gr rs S (T.set i z):=by
 refine⟨by rw[vH];exact g.len,⟨by rw[vH];exact g.le.1,fun j a b e1 e2=>?_⟩,fun j r' x' e1 e2=>?_⟩
 ·rw[vA] at e1;split at e1
  ·rename_i e
   subst e;split at e1
   ·cases e1;rw[hy] at e2;cases e2;exact hzy
   ·cases e1
  ·exact g.le.2 j a b e1 e2
 ·rw[vA] at e2;split at e2
  ·rename_i e
   subst e;split at e2
   ·cases e2;rw[hr] at e1;cases e1;exact⟨fun _=>hop,fun _=>hz0⟩
   ·cases e2
  ·exact g.zero j r' x' e1 e2
def z6l:∀op∈Qb,(!inT op ["label","try","endtry"])=inT op opsU:=vW
noncomputable def sz0(rs:List Row):List Nat:=rs.map fun r=>if inT r.op opsU=true then 1 else 0
def gr0(hc:Code rs)(L:Zr (numF rs) rs.length S):Gr rs S (sz0 rs):=by
 have hl:(sz0 rs).length=rs.length:=by unfold sz0;rw[kl]
 refine⟨hl,⟨by rw[hl,L.len],fun i x y e1 e2=>?_⟩,fun i r x e1 e2=>?_⟩
 ·unfold sz0 at e1;rw[vh] at e1;obtain⟨r,hr,rfl⟩:=Ad.mp e1;have e:(szs (numF rs) S)[i]?=some y:=by rw[L.fix];exact e2
  rw[z0H hr] at e;have e:=kC e;subst e;unfold nO;split
  ·exact (Zw _).1
  ·exact vj _
 ·unfold sz0 at e2;rw[vh,e1] at e2;have e2:=kC e2;subst e2;dsimp only;split
  ·rename_i c;exact⟨fun _=>c,fun _=>Nat.one_pos⟩
  ·rename_i c;exact⟨fun h=>vd h (by decide),fun h=>vd h c⟩
def zaF(L:Zr (numF rs) rs.length S)(g:Gr rs S T)(h:∀(j:Nat) x y,(szs (numF rs) T)[j]?=some x->T[j]?=some y->x<=y)(hN:JH (numF rs) rs.length):T=S:=
 Le.anti g.le (L.low T g.len ⟨(QU hN g.len).trans g.len.symm,h⟩)
end
structure LwU(K:ku)(C:Aa)(H:Hp)(l u cl nl wd:Aa)(rs:List Row)(S:List Nat):Prop where
 rows:∃as,H l=some (.lst<|as.map V.ref)/\zI H as rs
 code:Code rs
 labs:∃kvs,H wd=some (.dK kvs)/\jN kvs rs
 pk:z1z rs
 L:Zr (numF rs) rs.length S
 un:∃dx ct nt ut tt lt us,H u=some (.ins C dx<|unF ct nt ut tt lt)/\H ut=some (.tup<|us.map V.ref)/\UnIn H us (psM rs S)
 cs:H cl=some (.lst<|(shC rs).map V.str)
 ns:H nl=some (.lst<|nsOf rs)
section
variable {K:ku}{C:Aa}{H H':Hp}{l u cl nl wd sl:Aa}{rs:List Row}{S:List Nat}
def LwU.keep(g:LwU K C H l u cl nl wd rs S)(h1:l≠sl)(h2:cl≠sl)(h3:nl≠sl){ys:List V}(hs:H sl=some (.lst ys))(k:∀b o,H b=some o->b≠sl->H' b=some o):LwU K C H' l u cl nl wd rs S:=by
 obtain⟨⟨as,e1,e2⟩,hc,⟨kvs,e3,e4⟩,pk,L,⟨dx,ct,nt,ut,tt,lt,us,e5,e6,e7⟩,e8,e9⟩:=g;have kt:∀a xs,H a=some (.tup xs)->H' a=some (.tup xs):=fun a xs e=>k _ _ e fun z=>by rw[z,hs] at e;cases e
 exact⟨⟨as,k _ _ e1 h1,e2.keep kt⟩,hc,⟨kvs,k _ _ e3 (fun z=>by rw[z,hs] at e3;cases e3),e4⟩,pk,L,⟨dx,ct,nt,ut,tt,lt,us,k _ _ e5 (fun z=>by rw[z,hs] at e5;cases e5),kt _ _ e6,Paired.mapP e7 fun _ _ e=>kt _ _ e⟩,k _ _ e8 h2,k _ _ e9 h3⟩
def LwU.same(g:LwU K C H l u cl nl wd rs S)(s:Same H H'):LwU K C H' l u cl nl wd rs S:=by
 obtain⟨⟨as,e1,e2⟩,hc,⟨kvs,e3,e4⟩,pk,L,⟨dx,ct,nt,ut,tt,lt,us,e5,e6,e7⟩,e8,e9⟩:=g;exact⟨⟨as,s _ _ e1,e2.same s⟩,hc,⟨kvs,s _ _ e3,e4⟩,pk,L,⟨dx,ct,nt,ut,tt,lt,us,s _ _ e5,s _ _ e6,UnIn.same e7 s⟩,s _ _ e8,s _ _ e9⟩
def LwU.codeIn(g:LwU K C H l u cl nl wd rs S):QA K H l wd rs:=by
 obtain⟨⟨as,e1,e2⟩,hc,⟨kvs,e3,e4⟩,_⟩:=g;exact⟨⟨as,SqL.of e1,e2⟩,hc,kvs,e3,e4⟩
end
noncomputable abbrev N120:List Str:=["_law_script","_law_town_here","_law_code_here","_law_units","_law_consts","_law_names","_law_where_here","_law_sizes","_law_grown","_law_begins_here","_law_at","_law_long","_law_due","_law_some"]
def jP:zj N120 ["_law_script"] (zc<|top 120):=fsM
noncomputable def qu(k:Nat):Stmt:=(zR<|top 120).getD k (.Pass ⟨0,0,0,0⟩)
noncomputable abbrev XU(P:Program)(w:World)(K:ku)(mg:Str->Option Ab)(base:Heap)(f:Aa)(cdv:Ab)(A:Around)(vZ:List Env)(s:Ac)(H0:Hp)(E:XK):Cx:=(cxOf CX0 P w K mg base N120 "law" (zc<|top 120) f cdv A vZ s H0 E).nox
noncomputable def sumH:Option HO->Nat
|some (.lst xs)=>(xs.map fun v=>(argI v).toNat).sum
|_=>0
def z2m(T:List Nat):sumH (some<|.lst<|zw T)=T.sum:=by
 show ((zw T).map fun v=>(argI v).toNat).sum=_;unfold zw;rw[Ak];congr 1
 conv=>rhs;rw[<-List.map_id T]
 exact Ao fun x _=>rfl
noncomputable def grB:L2.St->Nat
|σ=>match σ[8]? with
 |some (some<|V.bl true)=>1
 |_=>0
section
variable {f:Aa}{cdv:Ab}{A:Around}{vZ:List Env}{s:Ac}{H0:Hp}{E:XK}{C:Aa}
def JU(K:ku)(C a t l u cl nl wd sl:Aa)(rs:List Row)(S:List Nat)(fin:Bool):L2.St->Hp->Prop:=fun σ H=>∃(b:Bool)(T:List Nat)(v9 v10 v11:Option V),σ=[some<|.ref a,some<|.ref t,some<|.ref l,some<|.ref u,some<|.ref cl,some<|.ref nl,some<|.ref wd,some<|.ref sl,some<|.bl b,v9,v10,v11,none,none]/\
 LwU K C H l u cl nl wd rs S/\H sl=some (.lst<|zw T)/\l≠sl/\cl≠sl/\nl≠sl/\Gr rs S T/\(b=false->T=S)/\(fin=true->T=S)
def HT(A B:L2.St->Hp->Prop):TS:=fun D σ H=>A σ H/\∀σ' H',B σ' H'->D.nx σ' H'
def zba{a t l u cl nl wd sl:Aa}{rs:List Row}{S:List Nat}(hr:Room 18 (XU P w K mg base f cdv A vZ s H0 E).A)(G:Glo mg)(FB:Fg P w K mg base)(FDg:Ff P w K mg base)(FNm:Fi P w K mg base):
  PS (XU P w K mg base f cdv A vZ s H0 E) (qu 8) (HT (JU K C a t l u cl nl wd sl rs S false)<|JU K C a t l u cl nl wd sl rs S true):=by
 have hr1:=hr.mono (vW:1<=18);have hr2:=hr.mono (vW:2<=18);refine PS.imp (ZQ vo (qH<|pv 8)
  (z6 (zM 8 jP.nd Z2)
  (z6 (zM 9 jP.nd<|zk FB hr1 rfl<|pa1<|pv 7)
  (z8 (qQ vo rfl (qB rfl G.range<|pa1<|zq zr rfl G.len zK<|pa1<|pv 2) (zL 10 jP.nd)
   (z8 (zV (zo J6 (zG zH (pv 7)<|pv 10) zb<|zy _)
    (z6 (zM 11 jP.nd<|zq zr rfl G.len zK<|pa1<|zk FDg hr1 rfl<|pa1<|zk FNm hr2 rfl<|zf (pv 2)<|zf (pv 10)<|zf (pv 9)<|pa3 (pv 6) (pv 4)<|pv 5)
    (z8 (zV (zo J6 (pv 11) (zG zH (pv 7)<|pv 10)<|zy _)
     (z6 (Za (pv 11)<|z0W (pv 7) (pv 10) ZO)<|z8<|zM 8 jP.nd Z2) zC))) zC))))))) ?_
 rintro D σ H ⟨h0,q⟩;refine JK (JU K C a t l u cl nl wd sl rs S false) (fun σ H=>3 * rs.length - sumH (H sl)+grB σ) h0 ?_ ?_
 ·rintro σ H1 ⟨b,T,v9,v10,v11,rfl,g,hsl,n1,n2,n3,gr,hb,_⟩;refine⟨b,rfl,?_⟩;cases b with
 |false=>exact iteF (q _ _ ⟨false,T,v9,v10,v11,rfl,g,hsl,n1,n2,n3,gr,hb,fun _=>hb rfl⟩)
 |true=>
   refine iteT ?_;have hhi:=g.code.hi;have hTl:=gr.len;refine⟨sl,T,rfl,SqL.of hsl,by lia,fun bl H2 s2 hbl hbl2=>?_⟩;have g2:=g.same s2;obtain⟨as,hl2,hR2⟩:=g2.rows;have hal:as.length=rs.length:=hR2.len;have nbl:bl≠sl:=(zd hsl hbl).symm;refine⟨l,_,rfl,.inl<|SqL.of hl2,_,rfl,by rw[kl];lia,by rw[kl];lia,?_⟩;rw[kl,hal];refine qJ (lo:=0) (n:=((rs.length:Nat):Int).toNat) (fun i σ H4=>∃(b:Bool)(T':List Nat)(v10 v11:Option V),σ=[some<|.ref a,some<|.ref t,some<|.ref l,some<|.ref u,some<|.ref cl,some<|.ref nl,some<|.ref wd,some<|.ref sl,some<|.bl b,some<|.ref bl,v10,v11,none,none]/\
    LwU K C H4 l u cl nl wd rs S/\H4 sl=some (.lst<|zw T')/\H4 bl=some (.lst<|zw<|(List.range (T.length+1)).map<|fstU T)/\Gr rs S T'/\Le T T'/\(b=true->T.sum < T'.sum)/\(b=false->T'=T/\∀(j:Nat) x y,j < i->(szs (numF rs) T)[j]?=some x->T[j]?=some y->x<=y)) ?_ ?_ ?_
   ·exact⟨false,T,_,_,rfl,g2,s2 _ _ hsl,hbl2,gr,Le.refl _,nofun,fun _=>⟨rfl,fun j x y h=>by lia⟩⟩
   ·rintro i σ H4 hi ⟨b,T',v10,v11,rfl,g4,hsl4,hbl4,gr4,le4,hb1,hb0⟩;rw[show (0:Int)+(i:Int)=i by lia];have hil:i < rs.length:=by lia
    have er:rs[i]?=some rs[i]:=kL hil;generalize rs[i]=r at er;have hiT:i < T'.length:=by rw[gr4.len];exact hil
    have eT:T'[i]?=some T'[i]:=kL hiT;generalize T'[i]=x at eT;have eV:(zw T')[i]?=some (.int ((x:Nat):Int)):=by unfold zw;rw[vh,eT];rfl
    have hzero:=gr4.zero i r x er eT;refine⟨sl,_,_,_,rfl,rfl,SqL.of hsl4,zm eV,_,_,rfl,rfl,_,rfl,ite2 (fun c=>?_) fun c=>?_⟩
    ·have c:decide ((0:Int) < ((x:Nat):Int))=true:=c;have hx0:0 < x:=by have:=kD c;lia
     have hop:=hzero.mp hx0;have hmr:=kH er;have hno:nO rs T r=some (numR (csOf rs) (nsOf rs) (jm rs T) r):=kz hop;have hlt:=z7A g.code gr.len (gr.le3 g.L) hmr hno;have hsz:=z0H (T:=T) er;rw[hno] at hsz;obtain⟨y,hy,hzy⟩:=z9C g.code g.L gr er;rw[hno] at hzy;generalize hk:numR (csOf rs) (nsOf rs) (jm rs T) r=k at *;have hsz:(szs (numF rs) T)[i]?=some (dg k).length:=hsz;have hzy:(dg k).length<=y:=hzy;refine⟨l,wd,bl,cl,nl,rs,i,r,T,rfl,g4.codeIn,er,hop,g4.pk,gr.len,SqL.of hbl4,g4.cs,g4.ns,fun H5 s5=>?_⟩;rw[hk];refine⟨k,rfl,hlt,fun dl H6 s6 hdl hdl6=>⟨dl,_,rfl,.inl<|SqL.of hdl6,?_⟩⟩;have s46:=s5.trans s6;have g6:=g4.same s46;have hsl6:=s46 _ _ hsl4;have hbl6:=s46 _ _ hbl4;rw[qb];refine⟨sl,_,_,_,rfl,rfl,SqL.of hsl6,zm eV,_,_,rfl,rfl,_,rfl,ite2 (fun c2=>?_) fun c2=>?_⟩
     ·have c2:decide (((x:Nat):Int) < (((dg k).length:Nat):Int))=true:=c2;have c2:x < (dg k).length:=by have:=kD c2;lia
      have es:(zw T').set i (.int (((dg k).length:Nat):Int))=zw (T'.set i (dg k).length):=by unfold zw;rw[List.map_set];rfl
      refine⟨sl,_,_,i,rfl,rfl,hsl6,?_,?_⟩
      ·unfold ixN;rw[kz (by lia),kz<|by rw[qb];lia];rfl
      rw[es];have hsum:=z3X (z:=(dg k).length) eT;have hle0:=le4.sum;refine⟨true,T'.set i (dg k).length,_,_,rfl,g6.keep n1 n2 n3 hsl6 (fun b o e nb=>by rw[zg nb];exact e),z7,by rw[zg nbl];exact hbl6,gr4.set (x:=x) er hop (by lia) hy hzy,le4.set eT (by lia),fun _=>by lia,nofun⟩
     ·have c2:¬decide (((x:Nat):Int) < (((dg k).length:Nat):Int))=true:=c2;have c2:(dg k).length<=x:=by rw[ye] at c2;lia
      refine⟨b,T',_,_,rfl,g6,hsl6,hbl6,gr4,le4,hb1,fun e=>?_⟩;obtain⟨rfl,h⟩:=hb0 e;refine⟨rfl,fun j x' y' hj e1 e2=>?_⟩;by_cases hji:j=i
      ·subst hji;rw[hsz] at e1;rw[eT] at e2;cases e1;cases e2;exact c2
      ·exact h j x' y' (by lia) e1 e2
    ·have c:¬decide ((0:Int) < ((x:Nat):Int))=true:=c;have hx0:x=0:=by rw[ye] at c;lia
     have hop:¬inT r.op opsU=true:=fun z=>by have:=hzero.mpr z;lia
     have hno:nO rs T r=none:=ky hop;have hsz:=z0H (T:=T) er;rw[hno] at hsz;refine⟨b,T',_,_,rfl,g4,hsl4,hbl4,gr4,le4,hb1,fun e=>?_⟩;obtain⟨rfl,h⟩:=hb0 e;refine⟨rfl,fun j x' y' hj e1 e2=>?_⟩;by_cases hji:j=i
     ·subst hji;rw[hsz] at e1;cases e1;exact vj _
     ·exact h j x' y' (by lia) e1 e2
   ·rintro σ H4 ⟨b,T',v10,v11,rfl,g4,hsl4,hbl4,gr4,le4,hb1,hb0⟩;have hN:=Qj g.code;refine⟨⟨b,T',_,_,_,rfl,g4,hsl4,n1,n2,n3,gr4,fun e=>?_,nofun⟩,?_⟩
    ·obtain⟨rfl,h⟩:=hb0 e;refine zaF g4.L gr4 (fun j x y e1 e2=>h j x y ?_ e1 e2) hN;have:=(kh.mp e2).1
     lia
    ·have h3:=ZK (gr4.le3 g4.L);rw[gr4.len] at h3;show 3 * rs.length - sumH (H4 sl)+grB _ < 3 * rs.length - sumH (H1 sl)+grB _;rw[hsl4,hsl,z2m,z2m];cases b with
    |false=>
      obtain⟨rfl,_⟩:=hb0 rfl;show 3 * rs.length - T'.sum+0 < 3 * rs.length - T'.sum+1;lia
    |true=>
      have:=hb1 rfl
      show 3 * rs.length - T'.sum+1 < 3 * rs.length - T.sum+1;lia
 ·rintro σ H Q1 Q2 hq h;obtain⟨v,e0,b,e,h⟩:=z9o h;exact z5P e0 ⟨b,e,hq _ _ h⟩
end
structure LwA(C:Aa)(H:Hp)(l u ct nt:Aa)(rs:List Row)(S:List Nat):Prop where
 rows:∃as,H l=some (.lst<|as.map V.ref)/\zI H as rs
 lc:z5L rs
 L:Zr (numF rs) rs.length S
 un:∃dx ut tt lt us,H u=some (.ins C dx<|unF ct nt ut tt lt)/\H ct=some (.tup<|csOf rs)/\H nt=some (.tup<|nsOf rs)/\H ut=some (.tup<|us.map V.ref)/\UnIn H us (psM rs S)
def LwA.same{C:Aa}{H H':Hp}{l u ct nt:Aa}{rs:List Row}{S:List Nat}(g:LwA C H l u ct nt rs S)(s:Same H H'):LwA C H' l u ct nt rs S:=by
 obtain⟨⟨as,e1,e2⟩,lc,L,⟨dx,ut,tt,lt,us,e3,e4,e5,e6,e7⟩⟩:=g;exact⟨⟨as,s _ _ e1,e2.same s⟩,lc,L,⟨dx,ut,tt,lt,us,s _ _ e3,s _ _ e4,s _ _ e5,s _ _ e6,UnIn.same e7 s⟩⟩
def z0e{X:Cx}{K:ku}(hK:X.K=K):OpR X (compareOp .NotIn) (rIn K true):=by subst hK;exact Qw
def Q0(K:ku)(a:Aa)(ns:List Int):L2.St->Hp->Prop:=fun σ H=>σ=[some<|.ref a,none,none,none,none,none,none,none,none,none,none,none,none,none]/\Scr K H a (ns.map V.int)/\ns.length<=63
def Q1(K:ku)(a:Aa)(ns:List Int):L2.St->Hp->Prop:=fun σ H=>∃t,σ=[some<|.ref a,some<|.ref t,none,none,none,none,none,none,none,none,none,none,none,none]/\Scr K H a (ns.map V.int)/\ns.length<=63/\H t=some (.lst<|qM 0 ns)
def Q2(a:Aa):L2.St->Hp->Prop:=fun σ H=>∃t l rs as,σ=[some<|.ref a,some<|.ref t,some<|.ref l,none,none,none,none,none,none,none,none,none,none,none]/\H l=some (.lst<|as.map V.ref)/\zI H as rs/\z5L rs
def Q3(C a:Aa):L2.St->Hp->Prop:=fun σ H=>∃t l u ct nt rs S,σ=[some<|.ref a,some<|.ref t,some<|.ref l,some<|.ref u,none,none,none,none,none,none,none,none,none,none]/\LwA C H l u ct nt rs S
def Q4(C a:Aa):L2.St->Hp->Prop:=fun σ H=>∃t l u cl ct nt rs S,σ=[some<|.ref a,some<|.ref t,some<|.ref l,some<|.ref u,some<|.ref cl,none,none,none,none,none,none,none,none,none]/\LwA C H l u ct nt rs S/\H cl=some (.lst<|(shC rs).map V.str)
def Q5(C a:Aa):L2.St->Hp->Prop:=fun σ H=>∃t l u cl nl ct nt rs S,σ=[some<|.ref a,some<|.ref t,some<|.ref l,some<|.ref u,some<|.ref cl,some<|.ref nl,none,none,none,none,none,none,none,none]/\LwA C H l u ct nt rs S/\H cl=some (.lst<|(shC rs).map V.str)/\H nl=some (.lst<|nsOf rs)
def Q6(K:ku)(C a:Aa):L2.St->Hp->Prop:=fun σ H=>∃t l u cl nl wd rs S,σ=[some<|.ref a,some<|.ref t,some<|.ref l,some<|.ref u,some<|.ref cl,some<|.ref nl,some<|.ref wd,none,none,none,none,none,none,none]/\LwU K C H l u cl nl wd rs S
def Q7(K:ku)(C a:Aa):L2.St->Hp->Prop:=fun σ H=>∃t l u cl nl wd sl rs S,σ=[some<|.ref a,some<|.ref t,some<|.ref l,some<|.ref u,some<|.ref cl,some<|.ref nl,some<|.ref wd,some<|.ref sl,none,none,none,none,none,none]/\LwU K C H l u cl nl wd rs S/\H sl=some (.lst<|zw<|sz0 rs)/\l≠sl/\cl≠sl/\nl≠sl
def QJ(K:ku)(C a:Aa)(fin:Bool):L2.St->Hp->Prop:=fun σ H=>∃t l u cl nl wd sl rs S,JU K C a t l u cl nl wd sl rs S fin σ H
def z2r{K:ku}{H H':Hp}{a:Aa}{xs:List V}(h:Scr K H a xs)(s:Same H H'):Scr K H' a xs:=h.keep fun o u e=>s _ _ e
section
variable {f:Aa}{cdv:Ab}{A:Around}{vZ:List Env}{s:Ac}{H0:Hp}{E:XK}{C a:Aa}{ns:List Int}
def ls0(hr:Room 18 (XU P w K mg base f cdv A vZ s H0 E).A)(FT:FN P w K mg base 1 "_law_town" ["_law_script"] (z2n K)):PS (XU P w K mg base f cdv A vZ s H0 E) (qu 0) (HT (Q0 K a ns)<|Q1 K a ns):=by
 refine PS.imp (zM 1 jP.nd<|zk FT (hr.mono<|by decide) rfl<|pa1<|pv 0) ?_;rintro D σ H ⟨⟨rfl,hS,hns⟩,q⟩;refine⟨a,ns,rfl,hS,by lia,fun t H1 s1 ht hT1=>?_⟩;exact q _ _ ⟨t,rfl,z2r hS s1,hns,hT1⟩
def ls1(hr:Room 18 (XU P w K mg base f cdv A vZ s H0 E).A)(FSm:FN P w K mg base 18 "_law_some_code" Vd (z2o K))(FLg:FN P w K mg base 18 "_law_long_code" Vd (z2q K))(FP:Fj P w K mg base):
  PS (XU P w K mg base f cdv A vZ s H0 E) (qu 1) (HT (Q1 K a ns)<|Q2 a):=by
 refine PS.imp (zM 2 jP.nd<|zk FP (hr.mono<|by decide) rfl<|pa3 (pv 0) (pv 1)<|zO<|pa2 (zk FSm hr rfl<|pa2 (pv 0)<|pv 1)<|zk FLg hr rfl<|pa2 (pv 0)<|pv 1) ?_;rintro D σ H ⟨⟨t,rfl,hS,hns,hT⟩,q⟩;refine⟨a,t,ns,0,ns,rfl,hS,by lia,rfl,hT,by decide,fun l1 as1 rs1 k c1 cells1 H1 hl1 hR1 g hchk hk90 hr1 hr140 hlt hc1 hT1 hcl k1=>?_⟩;have L1:=z0n g hchk hk90 hr1 hr140;have hS1:=hS.keep1 k1 hT;refine⟨a,t,ns,c1,cells1,rfl,hS1,by lia,hc1,hT1,by lia,fun l2 as2 rs2 c2 cells2 H2 hl2 hR2 L2 hlt2 hc2 hT2 hcl2 k2=>?_⟩;have hS2:=hS1.keep1 k2 hT1;refine⟨vX,fun p hp=>?_⟩;have s3:=ze hp (.lst [.ref l1,.ref l2]);refine⟨a,t,p,ns,c2,cells2,_,rfl,z2r hS2 s3,by lia,hc2,s3 _ _ hT2,by lia,z7,(zd hT2 hp).symm,by show 1<=2;decide,by show 2<=1000;decide,fun v cells3 H3 hv hc3 hT3 k3=>?_⟩;have hl1':=k3 _ _ (s3 _ _<|k2 _ _ hl1 hlt) hlt;have hl2':=k3 _ _ (s3 _ _ hl2) hlt2;have hR1':zI H3 as1 rs1:=(zI.same (hR1.keep fun b xs e=>k2 _ _ e fun z=>by rw[z,hT1] at e;cases e) s3).keep fun b xs e=>k3 _ _ e fun z=>by rw[z,s3 _ _ hT2] at e;cases e
 have hR2':zI H3 as2 rs2:=(hR2.same s3).keep fun b xs e=>k3 _ _ e fun z=>by rw[z,s3 _ _ hT2] at e;cases e
 simp only[kE,kq,or_false] at hv;rcases hv with rfl|rfl
 ·exact q _ _ ⟨t,l1,rs1,as1,rfl,hl1',hR1',L1⟩
 ·exact q _ _ ⟨t,l2,rs2,as2,rfl,hl2',hR2',L2⟩
def ls2(hr:Room 18 (XU P w K mg base f cdv A vZ s H0 E).A)(FA:FN P w K mg base 12 "assembled" ["code"] (z5W K C)):PS (XU P w K mg base f cdv A vZ s H0 E) (qu 2) (HT (Q2 a)<|Q3 C a):=by
 refine PS.imp (zM 3 jP.nd<|zk FA (hr.mono<|by decide) rfl<|pa1<|pv 2) ?_;rintro D σ H ⟨⟨t,l,rs,as,rfl,hl,hR,hL⟩,q⟩;obtain⟨fin,e1,e2⟩:=hL.st;refine⟨l,as,rs,fin,rfl,hl,hR,hL.code,e1,e2,fun x dx c n u tt ll us ts ls S H' s' _ hx L hp=>?_⟩;obtain⟨h1,h2,h3,h4,_⟩:=hp;exact q _ _ ⟨t,l,x,c,n,rs,S,rfl,⟨as,s' _ _ hl,hR.same s'⟩,hL,L,dx,u,tt,ll,us,hx,h1,h2,h3,h4⟩
def zai:(["_law_one"]:List Str).Nodup:=vW
def zah:(["_law_row"]:List Str).Nodup:=vW
def zag:(["_law_digit"]:List Str).Nodup:=vW
def ls3(hr:Room 18 (XU P w K mg base f cdv A vZ s H0 E).A)(c:UnC K C)(FS:Fh P w K mg base)(FC:MN P w K mg base 1 C "consts" ["self"] (jL C "pushed")):PS (XU P w K mg base f cdv A vZ s H0 E) (qu 3) (HT (Q3 C a)<|Q4 C a):=by
 have hr1:=hr.mono (vW:1<=18);refine PS.imp (jZ (i:=4) (N:=["_law_one"]) (nt:=1) (ix:=[]) (cl:=[]) rfl jP.nd rfl (Or.inl rfl) (zT.plain vW vW rfl vW rfl) (J3<|z4p (pv 3) c.cl FC hr1)
    (fun _ _ _ _=>zL 0 zai) (fun _ _ _ _=>qr) (fun _ _ _ _=>zk FS hr1 rfl<|pa1<|pv 0)) ?_
 rintro D σ H ⟨⟨t,l,u,ct,nt,rs,S,rfl,g⟩,q⟩;obtain⟨⟨as,hl,hR⟩,lc,L,⟨dx,ut,tt,lt,us,hu,hct,hnt,hut,hU⟩⟩:=g;have hcs:=z96 lc.code;have hlen:(csOf rs).length<=1000:=by have:=jE (qv rs "value");have:=qE rs "value";have:=lc.code.hi;unfold csOf;lia
 refine⟨u,dx,_,rfl,hu,rfl,u,dx,_,.ref ct,rfl,hu,rfl,ct,rfl,⟨_,SqT.of hct⟩,fun p hp=>?_⟩;obtain⟨g1,g2,g3⟩:=z3T (K:=K) (SqT.of hct);refine jy (n:=(csOf rs).length) (fun σ=>∃x:Option V,σ=[x]) (fun i x _=>(csOf rs)[i]?=some x) (fun i v _=>∃x,(csOf rs)[i]?=some x/\v=.str (shV x)) hlen hp ⟨none,rfl⟩ g1 g2 g3 (fun i v H1 H2 h _=>h) ?_ ?_
 ·rintro i x σ' H4 A hi s4 _ hY ⟨x1,rfl⟩ k;exact⟨x,rfl,(hcs x<|kH hY).2,k _ _ _ ⟨_,rfl⟩ (Same.refl _) ⟨x,hY,rfl⟩⟩
 ·intro ys H4 s4 h4 hl4 hR4;have e:ys=(shC rs).map V.str:=by
   unfold shC;rw[Ak];refine Af fun i=>?_
   rw[vh];by_cases hi:i < ys.length
   ·obtain⟨x,e1,e2⟩:=hR4 i _ (kL hi);rw[kL hi,e1,e2];rfl
   ·rw[vp (by lia),vp<|by lia];rfl
  rw[e] at h4;exact q _ _ ⟨t,l,u,p,ct,nt,rs,S,rfl,LwA.same ⟨⟨as,hl,hR⟩,lc,L,dx,ut,tt,lt,us,hu,hct,hnt,hut,hU⟩ s4,h4⟩
def ls4(hr:Room 18 (XU P w K mg base f cdv A vZ s H0 E).A)(G:Glo mg)(c:UnC K C)(FN':MN P w K mg base 1 C "names" ["self"] (jL C "named")):PS (XU P w K mg base f cdv A vZ s H0 E) (qu 4) (HT (Q4 C a)<|Q5 C a):=by
 have hr1:=hr.mono (vW:1<=18);refine PS.imp (zM 5 jP.nd<|ja Qz rfl G.list Jn<|pa1<|z4p (pv 3) c.cl FN' hr1) ?_;rintro D σ H ⟨⟨t,l,u,cl,ct,nt,rs,S,rfl,g,hcl⟩,q⟩;obtain⟨⟨as,hl,hR⟩,lc,L,⟨dx,ut,tt,lt,us,hu,hct,hnt,hut,hU⟩⟩:=g;refine⟨u,dx,_,rfl,hu,rfl,u,dx,_,.ref nt,rfl,hu,rfl,nt,_,rfl,.inr<|SqT.of hnt,fun p hp=>?_⟩;have s1:=ze hp (.lst<|nsOf rs);exact q _ _ ⟨t,l,u,cl,p,ct,nt,rs,S,rfl,LwA.same ⟨⟨as,hl,hR⟩,lc,L,dx,ut,tt,lt,us,hu,hct,hnt,hut,hU⟩ s1,s1 _ _ hcl,z7⟩
def ls5(hr:Room 18 (XU P w K mg base f cdv A vZ s H0 E).A)(FW:FN P w K mg base 1 "_law_where" ["_law_code_here"] (JQ K)):PS (XU P w K mg base f cdv A vZ s H0 E) (qu 5) (HT (Q5 C a)<|Q6 K C a):=by
 refine PS.imp (zM 6 jP.nd<|zk FW (hr.mono<|by decide) rfl<|pa1<|pv 2) ?_;rintro D σ H ⟨⟨t,l,u,cl,nl,ct,nt,rs,S,rfl,g,hcl,hnl⟩,q⟩;obtain⟨⟨as,hl,hR⟩,lc,L,⟨dx,ut,tt,lt,us,hu,hct,hnt,hut,hU⟩⟩:=g;refine⟨l,as,rs,rfl,SqL.of hl,hR,lc.code,fun d H1 hd s1 hC=>?_⟩;obtain⟨_,_,kvs,h1,h2⟩:=hC;exact q _ _ ⟨t,l,u,cl,nl,d,rs,S,rfl,⟨as,s1 _ _ hl,hR.same s1⟩,lc.code,⟨kvs,h1,h2⟩,lc.push,L,⟨dx,ct,nt,ut,tt,lt,us,s1 _ _ hu,s1 _ _ hut,UnIn.same hU s1⟩,s1 _ _ hcl,s1 _ _ hnl⟩
def ls6(hr:Room 18 (XU P w K mg base f cdv A vZ s H0 E).A)(G:Glo mg):PS (XU P w K mg base f cdv A vZ s H0 E) (qu 6) (HT (Q6 K C a)<|Q7 K C a):=by
 refine PS.imp (jZ (i:=7) (N:=["_law_row"]) (nt:=1) (ix:=[]) (cl:=[]) rfl jP.nd rfl (Or.inl rfl) (zT.plain vW vW rfl vW rfl) (qy<|pv 2)
    (fun _ _ _ _=>zL 0 zah) (fun _ _ _ _=>qr) (fun _ _ _ _=>ja z2d rfl G.int z32<|pa1<|jj (z0e (K:=K) rfl) (zG (Zf (K:=K) rfl) (pv 0) zb) (zY<|pa3 zh zh zh) rfl)) ?_
 rintro D σ H ⟨⟨t,l,u,cl,nl,wd,rs,S,rfl,g⟩,q⟩;obtain⟨as,hl,hR⟩:=g.rows;have hal:as.length=rs.length:=hR.len;have hhi:=g.code.hi;refine⟨l,rfl,⟨_,SqL.of hl⟩,fun p hp=>?_⟩;obtain⟨g1,g2,g3⟩:=Ze (K:=K) (SqL.of hl);refine jy (n:=(as.map V.ref).length) (fun σ=>∃x:Option V,σ=[x]) (fun i x _=>(as.map V.ref)[i]?=some x) (fun i v _=>∃r,rs[i]?=some r/\v=.int ((if inT r.op opsU=true then 1 else 0:Nat):Int)) (by rw[kl];lia) hp ⟨none,rfl⟩ g1 g2 g3 (fun i v H1 H2 h _=>h) ?_ ?_
 ·rintro i x σ' H4 A hi s4 _ hY ⟨x1,rfl⟩ k;obtain⟨b,r,rfl,er,hb⟩:=(hR.same s4).get hY;refine⟨b,_,_,_,rfl,rfl,SqT.of hb,zm (j:=0) rfl,vX,fun p1 hp1=>⟨p1,_,rfl,.inr<|SqT.of z7,rfl,rfl,⟨_,rfl,?_⟩⟩⟩;refine k _ _ _ ⟨_,rfl⟩ (ze hp1 _) ⟨r,er,?_⟩;obtain⟨so,hso⟩:=jY g.code (kH er);have:=z6l r.op (ZU hso)
  show V.int (if (!inT r.op ["label","try","endtry"])=true then 1 else 0)=_;rw[this];by_cases c:inT r.op opsU=true
  ·rw[kz c,kz c];rfl
  ·rw[ky c,ky c];rfl
 ·intro ys H4 s4 h4 hl4 hR4;rw[kl] at hl4;have e:ys=zw (sz0 rs):=by
   unfold zw sz0;rw[Ak];refine Af fun i=>?_
   rw[vh];by_cases hi:i < ys.length
   ·obtain⟨r,e1,e2⟩:=hR4 i _ (kL hi);rw[kL hi,e1,e2];rfl
   ·rw[vp (by lia),vp<|by lia];rfl
  rw[e] at h4;exact q _ _ ⟨t,l,u,cl,nl,wd,p,rs,S,rfl,g.same s4,h4,zd hl hp,zd g.cs hp,zd g.ns hp⟩
def ls7:PS (XU P w K mg base f cdv A vZ s H0 E) (qu 7) (HT (Q7 K C a)<|QJ K C a false):=by
 refine PS.imp (zM 8 jP.nd Z2) ?_;rintro D σ H ⟨⟨t,l,u,cl,nl,wd,sl,rs,S,rfl,g,hsl,n1,n2,n3⟩,q⟩;exact q _ _ ⟨t,l,u,cl,nl,wd,sl,rs,S,true,sz0 rs,none,none,none,rfl,g,hsl,n1,n2,n3,gr0 g.code g.L,nofun,nofun⟩
def ls8(hr:Room 18 (XU P w K mg base f cdv A vZ s H0 E).A)(G:Glo mg)(FB:Fg P w K mg base)(FDg:Ff P w K mg base)(FNm:Fi P w K mg base):PS (XU P w K mg base f cdv A vZ s H0 E) (qu 8) (HT (QJ K C a false)<|QJ K C a true):=by
 rintro vY s σ H D I ⟨⟨t,l,u,cl,nl,wd,sl,rs,S,j⟩,q⟩;exact zba hr G FB FDg FNm vY s σ H D I ⟨j,fun σ' H' j'=>q σ' H' ⟨t,l,u,cl,nl,wd,sl,rs,S,j'⟩⟩
end
def z5T(K:ku):Sp:=fun vs H Q _=>∃(a:Aa)(ns:List Int),vs=[.ref a]/\Scr K H a (ns.map V.int)/\ns.length<=63/\∀H',Q (.bl true) H'
def z88(rs:List Row)(S:List Nat):psT rs S rs.length=psM rs S:=by unfold psT psM;rw[vC]
def z9k{K:ku}{H:Hp}{p:Aa}{us:List Aa}{ps:List (Nat × Nat)}(h:H p=some (.tup<|us.map V.ref))(hU:UnIn H us ps):TupT K H p (ps.map fun q=>[(q.1:Int),(q.2:Int)]):=by
 refine⟨us,SqT.of h,by rw[kl];exact Paired.length hU,fun i b r e1 e2=>?_⟩;rw[vh] at e2;obtain⟨q,hq,rfl⟩:=Ad.mp e2;obtain⟨b',hb',ht⟩:=qV hU hq;rw[e1] at hb';cases hb';exact ht
section
variable {f:Aa}{cdv:Ab}{A:Around}{vZ:List Env}{s:Ac}{H0:Hp}{E:XK}{C a:Aa}
def DuI(K:ku)(C a t l u cl nl wd sl bl:Aa)(rs:List Row)(S:List Nat)(v8:Option V)(i:Nat)(σ:L2.St)(H:Hp):Prop:=∃(v10 v11 v13:Option V)(dl:Aa)(us:List Aa),σ=[some<|.ref a,some<|.ref t,some<|.ref l,some<|.ref u,some<|.ref cl,some<|.ref nl,some<|.ref wd,some<|.ref sl,v8,some<|.ref bl,v10,v11,some<|.ref dl,v13]/\
 LwU K C H l u cl nl wd rs S/\H sl=some (.lst<|zw S)/\H bl=some (.lst<|zw<|(List.range (S.length+1)).map<|fstU S)/\H dl=some (.lst<|us.map V.ref)/\UnIn H us (psT rs S i)
def z7P(hr:Room 18 (XU P w K mg base f cdv A vZ s H0 E).A){Q:VK}(q:∀H',Q (.bl true) H')(G:Glo mg)(c:UnC K C)(FB:Fg P w K mg base)(FDg:Ff P w K mg base)(FNm:Fi P w K mg base)(FO:FN P w K mg base 1 "_law_ops" [] z7T)(FU:MN P w K mg base 1 C "units" ["self"] (jL C "pieces")):
  ∃TB:TS,PSs (XU P w K mg base f cdv A vZ s H0 E) [qu 9,qu 10,qu 11,qu 12] TB/\∀σ H,QJ K C a true σ H->TB {nx:=fun _ H'=>Q .non H',rt:=Q} σ H:=by
 have hr1:=hr.mono (vW:1<=18);have hr2:=hr.mono (vW:2<=18);have hu3:(XU P w K mg base f cdv A vZ s H0 E).A.units+3 < cLine:=by have:=hr.un;lia
 refine'⟨_,z6 _ _,_⟩
 rotate_left 2
 ·exact zM 9 jP.nd (zk FB hr1 rfl<|pa1<|pv 7)
 ·refine' z6 _ _
  rotate_left 2
  ·exact zM 12 jP.nd (zO qC)
  exact z6 (qQ vo rfl (qB rfl G.range<|pa1<|zq zr rfl G.len zK<|pa1<|pv 2) (zL 10 jP.nd)
   (z8 (zV (zo J6 (zG zH (pv 7)<|pv 10) zb<|zy _)
    (z6 (zM 13 jP.nd<|zk FDg hr1 rfl<|pa1<|zk FNm hr2 rfl<|zf (pv 2)<|zf (pv 10)<|zf (pv 9)<|pa3 (pv 6) (pv 4)<|pv 5)
    (z6 (zM 13 jP.nd<|zE Zv (zE z4w (zO<|pa1 zb)<|zE jh (zG zH (pv 7)<|pv 10)<|zq zr rfl G.len zK<|pa1<|pv 13)<|pv 13)
    (z8 (zM 12 jP.nd (zE Zv (zE Zv (pv 12)
      (ql (N:=["_law_digit"]) (nt:=1) (ix:=[]) (cl:=[]) rfl (zT.plain vW vW rfl vW rfl) (qy<|z0b z4c (pv 13) z1T<|z1S<|Qi jO zb)
       (fun _ _ _ _=>zL 0 zag) (fun _ _ _ _=>qr) (fun _ _ _ _=>zY<|pa2 zb<|pv 0)))
     (zO<|pa1<|zY<|pa2 (z1W PySem.F.plainAttrs_list PySem.F.slot_list_index PySem.F.type_list_index J9 (za1 FO hr1 rfl)<|pa1<|zG qg (zG zH (pv 2)<|pv 10) zb)<|zG zH (pv 13)<|Qi jO zb)))))) zC)))
   (z8<|zl<|jj (z8h hu3) (z4p (pv 3) c.cl FU hr1) (ja jd rfl G.tuple qi<|pa1<|pv 12)<|zy _)
 rintro σ H ⟨t,l,u,cl,nl,wd,sl,rs,S,b,T,v9,v10,v11,rfl,g,hsl,n1,n2,n3,gr,_,hT⟩;have hT:=hT rfl;subst hT;have hhi:=g.code.hi;have hTl:=gr.len;refine⟨sl,T,rfl,SqL.of hsl,by lia,fun bl H1 s1 hbl hbl1=>⟨vj _,fun dl hdl=>?_⟩⟩;have s2:=ze hdl (.lst []);have s12:=s1.trans s2;have g2:=g.same s12;obtain⟨as,hl2,hR2⟩:=g2.rows;have hal:as.length=rs.length:=hR2.len;refine⟨l,_,rfl,.inl<|SqL.of hl2,_,rfl,by rw[kl];lia,by rw[kl];lia,?_⟩;rw[kl,hal];refine qJ (lo:=0) (n:=((rs.length:Nat):Int).toNat) (DuI K C a t l u cl nl wd sl bl rs T<|some<|.bl b) ?_ ?_ ?_
 ·exact⟨_,_,_,dl,[],rfl,g2,s12 _ _ hsl,s2 _ _ hbl1,z7,.nil⟩
 ·rintro i σ H4 hi ⟨v10,v11,v13,dl,us,rfl,g4,hsl4,hbl4,hdl4,hU4⟩;rw[show (0:Int)+(i:Int)=i by lia];have hil:i < rs.length:=by lia
  have er:rs[i]?=some rs[i]:=kL hil;generalize rs[i]=r at er;have hiT:i < T.length:=by rw[hTl];exact hil
  have eT:T[i]?=some T[i]:=kL hiT;generalize T[i]=x at eT;have eV:(zw T)[i]?=some (.int ((x:Nat):Int)):=by unfold zw;rw[vh,eT];rfl
  have hzero:=gr.zero i r x er eT;have hul:us.length=(psT rs T i).length:=Paired.length hU4;have hpl:=z1R (rs:=rs) (S:=T) i;refine⟨sl,_,_,_,rfl,rfl,SqL.of hsl4,zm eV,_,_,rfl,rfl,_,rfl,ite2 (fun c=>?_) fun c=>?_⟩
  ·have c:decide ((0:Int) < ((x:Nat):Int))=true:=c;have hx0:0 < x:=by have:=kD c;lia
   have hop:=hzero.mp hx0;have hmr:=kH er;have hno:nO rs T r=some (numR (csOf rs) (nsOf rs) (jm rs T) r):=kz hop;have hlt:=z7A g.code gr.len (gr.le3 g.L) hmr hno;have hsz:=z0H (T:=T) er;rw[hno,g.L.fix,eT] at hsz;generalize hk:numR (csOf rs) (nsOf rs) (jm rs T) r=k at *;have hsz:x=(dg k).length:=kC hsz;refine⟨l,wd,bl,cl,nl,rs,i,r,T,rfl,g4.codeIn,er,hop,g4.pk,gr.len,SqL.of hbl4,g4.cs,g4.ns,fun H5 s5=>?_⟩;rw[hk];refine⟨k,rfl,hlt,fun pl H6 s6 hpl6 hpl6'=>?_⟩;have s46:=s5.trans s6;refine⟨vX,fun p7 hp7=>?_⟩;have s7:=ze hp7 (.lst [.int 0]);have s47:=s46.trans s7;have ez:((x:Nat):Int) - ((zw<|dg k).length:Int)=0:=by rw[qb,hsz];lia
   refine⟨sl,_,_,_,rfl,rfl,SqL.of<|s47 _ _ hsl4,zm eV,pl,_,rfl,.inl<|SqL.of<|s7 _ _ hpl6',_,_,rfl,rfl,p7,_,_,rfl,rfl,z7,by rw[ez];decide,by rw[ez];decide,by rw[ez];decide,fun p8 hp8=>?_⟩;rw[ez] at *;have hp8':(upd (upd H6 p7<|.lst [.int 0]) p8<|.lst (List.replicate (0:Int).toNat [V.int 0]).flatten) p8=some (.lst []):=z7;have s8:=ze hp8 (.lst (List.replicate (0:Int).toNat [V.int 0]).flatten);generalize upd (upd H6 p7<|.lst [.int 0]) p8 (.lst (List.replicate (0:Int).toNat [V.int 0]).flatten)=H8 at *;have s78:=s7.trans s8;have s48:=s46.trans s78;have hdk:=Zw k;refine⟨p8,pl,_,_,rfl,rfl,hp8',s78 _ _ hpl6',by rw[qb,sizeLine_eq];show 0+_<=_;lia,fun p9 hp9=>?_⟩;have s9:=ze hp9 (.lst ([]++zw (dg k)));have s49:=s48.trans s9;have hp9':(upd H8 p9<|.lst ([]++zw (dg k))) p9=some (.lst<|zw<|dg k):=z7;generalize upd H8 p9 (.lst ([]++zw (dg k)))=H9 at *;have hd:dg k≠[]:=fun z=>by rw[z] at hdk;exact vd hdk.1 (by decide)
   refine⟨1,rfl,-1,rfl,p9,_,rfl,SqL.of hp9',fun q1 hq1=>?_⟩;rw[z2I hd];have sA:=ze hq1 (.lst<|zw (dg k).dropLast);have hq1':(upd H9 q1<|.lst<|zw (dg k).dropLast) q1=some (.lst<|zw (dg k).dropLast):=z7;generalize upd H9 q1 (.lst<|zw (dg k).dropLast)=HA at *;obtain⟨w1,w2,w3⟩:=Ze (K:=K) (SqL.of hq1');have hdl2:(dg k).dropLast.length<=2:=by rw[List.length_dropLast];lia
   refine⟨q1,rfl,⟨_,SqL.of hq1'⟩,fun q2 hq2=>jy (n:=(zw (dg k).dropLast).length) (fun σ=>∃x:Option V,σ=[x]) (fun i x _=>(zw (dg k).dropLast)[i]?=some x)
    (fun i v H4=>∃a,v=.ref a/\a≠q2/\∃n,(dg k).dropLast[i]?=some n/\H4 a=some (.tup<|zw [0,n])) (by rw[qb];lia) hq2 ⟨none,rfl⟩ w1 w2 w3 ?_ ?_ ?_⟩
   ·rintro i v H4 H5 ⟨a,rfl,na,n,hn,ha⟩ k;exact⟨a,rfl,na,n,hn,k _ _ ha na⟩
   ·rintro i x σ' H4 A hi s4 hp4 hY ⟨x1,rfl⟩ k;obtain⟨n,hn,rfl⟩:=z0j hY;exact⟨vX,fun q hq=>k _ _ _ ⟨_,rfl⟩ (ze hq _) ⟨q,rfl,fun z=>hp4 (z▸hq),n,hn,z7⟩⟩
   ·intro ys HB sB hB hlenB hRB;obtain⟨vs,rfl,hvs⟩:=z1N (fun i a=>a≠q2/\∃n,(dg k).dropLast[i]?=some n/\HB a=some (.tup<|zw [0,n])) (fun i v e=>by obtain⟨a,rfl,h⟩:=hRB i v e;exact⟨a,rfl,h⟩);have hvl:vs.length=(dg k).dropLast.length:=by rw[kl,qb] at hlenB;exact hlenB
    have hV:UnIn HB vs ((dg k).dropLast.map fun x=>(0,x)):=jD (by rw[kl];exact hvl) fun j a p e1 e2=>by
     rw[vh] at e2;obtain⟨n',hn',rfl⟩:=Ad.mp e2;obtain⟨_,n,h1,h2⟩:=hvs j a e1;rw[hn'] at h1;cases h1;exact h2
    have s9B:=sA.trans sB;have s4B:=s49.trans s9B;refine⟨dl,q2,us.map V.ref,vs.map V.ref,rfl,rfl,s4B _ _ hdl4,hB,by rw[kl,kl,sizeLine_eq];lia,fun q3 hq3=>?_⟩;have sC:=ze hq3 (.lst (us.map V.ref++vs.map V.ref));have hq3':(upd HB q3<|.lst (us.map V.ref++vs.map V.ref)) q3=some (.lst (us.map V.ref++vs.map V.ref)):=z7;generalize upd HB q3 (.lst (us.map V.ref++vs.map V.ref))=HC at *;refine⟨rfl,fun po HD sD hpo hpo'=>?_⟩;have sCD:=sC.trans sD;have s4D:=s4B.trans sCD;have gD:=g4.same s4D;obtain⟨asD,hlD,hRD⟩:=gD.rows;obtain⟨ra,hra,hrat⟩:=hRD.get' er;have hidx:=z1d (Ji.mp hop);refine⟨.inl ⟨rfl,_,SqL.of hpo'⟩,l,_,_,_,rfl,rfl,SqL.of hlD,zm hra,ra,_,_,_,rfl,rfl,SqT.of hrat,zm (j:=0) rfl,po,opsU,r.op,opsU.idxOf r.op,rfl,rfl,hpo',hidx,?_,by decide,1,rfl,p9,_,_,_,rfl,rfl,SqL.of<|(s9B.trans sCD) _ _ hp9',z0Z hd,vX,fun q4 hq4=>⟨vX,fun q5 hq5=>?_⟩⟩
    ·intro m hm e;have:=List.not_of_lt_findIdx (p:=(· == r.op)) (xs:=opsU) (i:=m) hm
     rw[(kh.mp e).2] at this;simp at this
    have sE:=ze hq4 (.tup [.int ((opsU.idxOf r.op:Nat):Int),.int (((dg k).getLastD 0:Nat):Int)]);have sF:=ze hq5 (.lst [.ref q4]);have sEF:=sE.trans sF;refine⟨q3,q5,_,[.ref q4],rfl,rfl,sEF _ _<|sD _ _ hq3',z7,by rw[km,kl,kl,sizeLine_eq];show _+1<=_;lia,fun q6 hq6=>?_⟩;have sG:=ze hq6 (.lst (us.map V.ref++vs.map V.ref++[.ref q4]));have sEG:=sEF.trans sG;have s4G:=s4D.trans sEG;refine⟨_,_,_,q6,us++vs++[q4],rfl,g4.same s4G,s4G _ _ hsl4,s4G _ _ hbl4,by rw[kK,kK];exact z7,?_⟩;rw[QL er,hno];have eu:unR r (dgO<|some k)=(dg k).dropLast.map (fun x=>(0,x))++[(opsU.idxOf r.op,(dg k).getLastD 0)]:=kz hop;rw[eu,<-kX];exact ((hU4.same s4G).append<|hV.same<|sCD.trans sEG).append (.cons ((sF.trans sG) _ _ z7) .nil)
  ·have c:¬decide ((0:Int) < ((x:Nat):Int))=true:=c;have hx0:x=0:=by rw[ye] at c;lia
   have hop:¬inT r.op opsU=true:=fun z=>by have:=hzero.mpr z;lia
   refine⟨_,_,_,dl,us,rfl,g4,hsl4,hbl4,hdl4,?_⟩;rw[QL er];unfold unR;rw[ky hop,kW];exact hU4
 ·rintro σ H4 ⟨v10,v11,v13,dl,us,rfl,g4,hsl4,hbl4,hdl4,hU4⟩;obtain⟨dx,ct,nt,ut,tt,lt,us',hu4,hut4,hU4'⟩:=g4.un;have e:((rs.length:Nat):Int).toNat=rs.length:=ya _;rw[e,z88] at hU4;refine⟨u,dx,_,rfl,hu4,rfl,u,dx,_,.ref ut,rfl,hu4,rfl,dl,_,rfl,.inl ⟨SqL.of hdl4,fun p hp=>?_⟩⟩;have s5:=ze hp (.tup<|us.map V.ref);exact⟨ut,p,_,rfl,rfl,z9k (s5 _ _ hut4)<|hU4'.same s5,z9k z7<|hU4.same s5,q _⟩
end
section
variable {C:Aa}
def z5d(D:zn K mg "long_stretches" (top 89))(G:Glo mg):FN P w K mg base 1 "long_stretches" ["things"] (Qg K qL):=
 z2R (r:=z87) (fun _ _ _ _ h s=>z51 h s) (fun _ _ hu=>z8f hu) (fun H x y a b Q ha hb q=>⟨a,b,ha,hb,q⟩) D G
def zaO{f:Aa}{fd:FuncData}(D:Fun K "law" "law" (top 120) f fd)(G:Glo mg)(c:UnC K C)(FT:FN P w K mg base 1 "_law_town" ["_law_script"] (z2n K))(FP:Fj P w K mg base)(FSm:FN P w K mg base 18 "_law_some_code" Vd (z2o K))(FLg:FN P w K mg base 18 "_law_long_code" Vd (z2q K))(FA:FN P w K mg base 12 "assembled" ["code"] (z5W K C))(FS:Fh P w K mg base)(FC:MN P w K mg base 1 C "consts" ["self"] (jL C "pushed"))(FN':MN P w K mg base 1 C "names" ["self"] (jL C "named"))(FU:MN P w K mg base 1 C "units" ["self"] (jL C "pieces"))(FW:FN P w K mg base 1 "_law_where" ["_law_code_here"] (JQ K))(FB:Fg P w K mg base)(FDg:Ff P w K mg base)(FNm:Fi P w K mg base)(FO:FN P w K mg base 1 "_law_ops" [] z7T):FnOk P w K mg base CX0 19 f fd ["_law_script"] (z5T K):=by
 refine D.ok jP (fun vs H Q E h=>by obtain⟨a,ns,rfl,_⟩:=h;rfl) (fun cdv A vZ s H vs Q E hr h=>?_);obtain⟨a,ns,rfl,hS,hns,q⟩:=h;obtain⟨TT,hTT,tt⟩:=@z7P P w K mg base f cdv A vZ s H E C a hr Q q G c FB FDg FNm FO FU;have h0:=@ls0 P w K mg base f cdv A vZ s H E a ns hr FT;have h1:=@ls1 P w K mg base f cdv A vZ s H E a ns hr FSm FLg FP;have h2:=@ls2 P w K mg base f cdv A vZ s H E C a hr FA;have h3:=@ls3 P w K mg base f cdv A vZ s H E C a hr c FS FC;have h4:=@ls4 P w K mg base f cdv A vZ s H E C a hr G c FN';have h5:=@ls5 P w K mg base f cdv A vZ s H E C a hr FW;have h6:=@ls6 P w K mg base f cdv A vZ s H E C a hr G;have h7:=@ls7 P w K mg base f cdv A vZ s H E C a;have h8:=@ls8 P w K mg base f cdv A vZ s H E C a hr G FB FDg FNm;have eb:zR (top 120)=[qu 0,qu 1,qu 2,qu 3,qu 4,qu 5,qu 6,qu 7,qu 8,qu 9,qu 10,qu 11,qu 12]:=by rfl
 rw[eb];refine' Exists.intro _ (And.intro _ _)
 rotate_left
 ·iterate 9
   refine' z6 _ _
   rotate_left 2
   ·with_reducible assumption
  with_reducible assumption
 exact⟨⟨rfl,hS,hns⟩,fun σ1 H1 i1=>⟨i1,fun σ2 H2 i2=>⟨i2,fun σ3 H3 i3=>⟨i3,fun σ4 H4 i4=>⟨i4,fun σ5 H5 i5=>⟨i5,fun σ6 H6 i6=>⟨i6,fun σ7 H7 i7=>⟨i7,fun σ8 H8 i8=>⟨i8,fun σ9 H9 i9=>tt _ _ i9⟩⟩⟩⟩⟩⟩⟩⟩⟩
end
def LK(K:ku)(f:Aa)(x q:Str)(st:Stmt):Prop:=∃(oc:Ab)(od an:Option Aa)(osl:Array (Option Ab))(kV doc pm cdv ct:Ab),K.lookup f=some ⟨oc,od,.func<|PySem.W.fnOf x q (qF st) (zR st) (zc st) .none kV doc pm an cdv ct,osl⟩/\PySem.W.codeIn K cdv q=true/\PySem.W.keepIn K (.ref f)=true
def lk_mk{K:ku}{f:Aa}{x q:Str}{st:Stmt}{oc:Ab}{od an:Option Aa}{osl:Array (Option Ab)}{kV doc pm cdv ct:Ab}(l:K.lookup f=some ⟨oc,od,.func<|PySem.W.fnOf x q (qF st) (zR st) (zc st) .none kV doc pm an cdv ct,osl⟩)(c:PySem.W.codeIn K cdv q=true)(k:PySem.W.keepIn K (.ref f)=true):LK K f x q st:=⟨_,_,_,_,_,_,_,_,_,l,c,k⟩
def HD(K:ku)(f:Aa)(x:Str)(n:Nat):Prop:=PySem.W.nsIn K mainGlobals x=some (some<|.ref f)/\LK K f x x (top n)
def hdm{K:ku}{f:Aa}{x:Str}{n:Nat}{oc:Ab}{od an:Option Aa}{osl:Array (Option Ab)}{kV doc pm cdv ct:Ab}(a:PySem.W.nsIn K mainGlobals x=some (some<|.ref f))(l:K.lookup f=some ⟨oc,od,.func<|PySem.W.fnOf x x (qF<|top n) (zR<|top n) (zc<|top n) .none kV doc pm an cdv ct,osl⟩)(c:PySem.W.codeIn K cdv x=true)(k:PySem.W.keepIn K (.ref f)=true):HD K f x n:=⟨a,lk_mk l c k⟩
def zbH{K:ku}{h:Heap}{mg:Str->Option Ab}{x:Str}{n:Nat}{f:Aa}(X:K.In h)(G:h.Ns mainGlobals mg)(l:HD K f x n):zn K mg x (top n):=by
 obtain⟨a,_,_,_,_,_,_,_,_,_,l,c,k⟩:=l;exact⟨f,_,z2M l c k,kn X G a⟩
def z8z{K:ku}{C:Aa}{x q:Str}{st:Stmt}(l:∃f,PySem.W.findIn K (.ref C) x=some (some<|.ref f)/\PySem.W.isFn K (.ref f)=true/\LK K f x q st):HasM K C x q st:=by
 obtain⟨f,a,i,_,_,_,_,_,_,_,_,_,l,c,k⟩:=l;exact⟨f,_,z2M l c k,⟨a,i,k⟩⟩
def zbG{K:ku}{C:Aa}{q:Str}{st:Stmt}{f:Aa}(mk:PySem.W.makesIn K C=true)(a:PySem.W.findIn K (.ref C) "__init__"=some (some<|.ref f))(i:PySem.W.isFn K (.ref f)=true)(l:LK K f "__init__" q st)(kc:PySem.W.keepIn K (.ref C)=true):HasI K C q st:=by
 obtain⟨_,_,_,_,_,_,_,_,_,l,c,k⟩:=l;exact⟨f,_,z2M l c k,⟨mk,a,i,kc⟩⟩
def CN(K:ku)(x:Str)(i:Int):Prop:=∃u,PySem.W.nsIn K mainGlobals x=some (some u)/\RelV (.int i) u
def cnm{K:ku}{x:Str}{i:Int}{u:Ab}(a:PySem.W.nsIn K mainGlobals x=some (some u))(r:RelV (.int i) u):CN K x i:=⟨u,a,r⟩
def Jv{K:ku}{h:Heap}{mg:Str->Option Ab}{x:Str}{i:Int}(X:K.In h)(G:h.Ns mainGlobals mg)(l:CN K x i):∃u,mg x=some u/\RelV (.int i) u:=l.elim fun u q=>⟨u,kn X G q.1,q.2⟩
def KT(K:ku)(w:World)(x:Str)(tab:List (Str × V)):Prop:=∃a,PySem.W.nsIn K mainGlobals x=some (some<|.ref a)/\KTab w.params K a tab
def ktm{K:ku}{w:World}{x:Str}{tab:List (Str × V)}{a:Aa}{e:Array DictEntry}{n:Nat}(h:PySem.W.nsIn K mainGlobals x=some (some<|.ref a))(l:K.lookup a=some ⟨.type "dict",none,.dict e n,#[]⟩)(k:PySem.W.KeysLit w.params e.toList)(m:(a == sysModules)=false)(p:Paired (fun (p:Str × V) (e:DictEntry)=>(∃t,e.key=.str p.1 t)/\RelV p.2 e.val) tab e.toList):KT K w x tab:=⟨a,h,e,n,l,k,m,p⟩
def ktg{K:ku}{w:World}{h:Heap}{mg:Str->Option Ab}{x:Str}{tab:List (Str × V)}(X:K.In h)(G:h.Ns mainGlobals mg)(l:KT K w x tab):∃d,mg x=some (.ref d)/\KTab w.params K d tab:=l.elim fun d q=>⟨d,kn X G q.1,q.2⟩
def KU(K:ku)(x:Str)(xs:List V):Prop:=∃a,PySem.W.nsIn K mainGlobals x=some (some<|.ref a)/\KTup K a xs
def MD(K:ku)(C:Aa)(x q:Str)(st:Stmt):Prop:=∃f,PySem.W.findIn K (.ref C) x=some (some<|.ref f)/\PySem.W.isFn K (.ref f)=true/\LK K f x q st
def mdm{K:ku}{C f:Aa}{x q:Str}{st:Stmt}(a:PySem.W.findIn K (.ref C) x=some (some<|.ref f))(i:PySem.W.isFn K (.ref f)=true)(l:LK K f x q st):MD K C x q st:=⟨f,a,i,l⟩
def z6A{K:ku}{a:Aa}{xs:List V}{o:Obj}{its:Array Ab}{n:Nat}(l:K.lookup a=some o)(c:o.cls=.type "tuple")(d:o.data=.seq its n)(v:Vals xs its.toList)(z:xs.length<=1000):KTup K a xs:=
 ⟨o,its,n,l,c,d,by have h1:xs.length=its.toList.length:=v.length;have h2:its.toList.length=its.size:=Array.length_toList;exact z4b (by lia),v⟩
def kum{K:ku}{x:Str}{a:Aa}{xs:List V}{o:Obj}{its:Array Ab}{n:Nat}(h:PySem.W.nsIn K mainGlobals x=some (some<|.ref a))(l:K.lookup a=some o)(c:o.cls=.type "tuple")(d:o.data=.seq its n)(v:Vals xs its.toList)(z:xs.length<=1000):KU K x xs:=⟨a,h,z6A l c d v z⟩
def kug{K:ku}{h:Heap}{mg:Str->Option Ab}{x:Str}{xs:List V}(X:K.In h)(G:h.Ns mainGlobals mg)(l:KU K x xs):∃a,mg x=some (.ref a)/\KTup K a xs:=l.elim fun d q=>⟨d,kn X G q.1,q.2⟩
set_option autoImplicit true
def all_mk{l:PySem.W.OpenLaw}{w:World}{K:ku}{h:Heap}{mg:Str->Option Ab}{fa CU T100 gfirst:Aa}{to100:Obj}{n100:Nat}(X:K.In h)(G:h.Ns mainGlobals mg)(hfa:mg "law"=some (.ref fa)){od100 an100:Option Aa}{sl100:Array (Option Ab)}{oc100 kV100 dc100 pm100 cd100 ct100:Ab}{oO:Obj}{iO:Array Ab}{nO:Nat}{tfirst:Aa}{ofirst:Obj}{ifirst:Array Ab}{nfirst:Nat}{ogfirst:Obj}{igfirst:Array Ab}{ngfirst:Nat}(l13:HD K f13 "is_number" 13)(l14:HD K f14 "is_number_within" 14)(l15:HD K f15 "is_letters" 15)(l16:HD K f16 "is_name" 16)(l17:HD K f17 "is_kind" 17)(l18:HD K f18 "is_mark" 18)(l19:HD K f19 "is_value_within" 19)(l20:HD K f20 "is_pushed" 20)(l21:HD K f21 "is_copied" 21)(l22:HD K f22 "is_swapped_with" 22)(l23:HD K f23 "is_none" 23)(l25:HD K f25 "is_op" 25)(l26:HD K f26 "arg_sort" 26)(l27:HD K f27 "arg_fits" 27)(l28:HD K f28 "is_row" 28)(l29:HD K f29 "label_places" 29)(l30:HD K f30 "mark_fits" 30)(l31:HD K f31 "first_bad_place" 31)(l32:HD K f32 "has_places" 32)(l33:HD K f33 "check_code" 33)(l35:HD K f35 "digits_of" 35)(l45:HD K f45 "uppermost" 45)(l46:HD K f46 "depth_asked" 46)(l47:HD K f47 "lacks_values" 47)(l48:HD K f48 "lacks_guard" 48)(l49:HD K f49 "takes_beneath" 49)(l50:HD K f50 "moves" 50)(l51:HD K f51 "words_lacking" 51)(l52:HD K f52 "guards_behind" 52)(l53:HD K f53 "next_states" 53)(l54:HD K f54 "state_words" 54)(l55:HD K f55 "searched" 55)(l56:HD K f56 "states" 56)(l60:HD K f60 "is_tuple_of" 60)(l61:HD K f61 "is_guard_entry" 61)(l62:HD K f62 "is_guard_table" 62)(l63:HD K f63 "is_line_entry" 63)(l64:HD K f64 "is_line_table" 64)(l71:HD K f71 "is_unit" 71)(l72:HD K f72 "are_consts" 72)(l73:HD K f73 "are_names" 73)(l74:HD K f74 "are_units" 74)(l75:HD K f75 "are_lines" 75)(l76:HD K f76 "are_parts" 76)(l79:HD K f79 "value_key" 79)(l80:HD K f80 "numbered" 80)(l81:HD K f81 "args_of_sort" 81)(l82:HD K f82 "makes_units" 82)(l83:HD K f83 "number_for" 83)(l84:HD K f84 "first_units" 84)(l85:HD K f85 "sized" 85)(l86:HD K f86 "digits_by" 86)(l87:HD K f87 "fewest_digits" 87)(l88:HD K f88 "row_units" 88)(l89:HD K f89 "long_stretches" 89)(l90:HD K f90 "guards_by_row" 90)(l91:HD K f91 "by_unit" 91)(l92:HD K f92 "guard_table" 92)(l93:HD K f93 "line_table" 93)(l94:HD K f94 "assembled" 94)(l96:HD K f96 "_law_town" 96)(l97:HD K f97 "_law_draw" 97)(l98:HD K f98 "_law_pick" 98)(l99:HD K f99 "_law_const" 99)(l101:HD K f101 "_law_mark" 101)(l102:HD K f102 "_law_value" 102)(l103:HD K f103 "_law_tried_value" 103)(l104:HD K f104 "_law_moved_value" 104)(l105:HD K f105 "_law_deed" 105)(l106:HD K f106 "_law_choice" 106)(l107:HD K f107 "_law_round" 107)(l108:HD K f108 "_law_tried" 108)(l109:HD K f109 "_law_code" 109)(l110:HD K f110 "_law_shown" 110)(l111:HD K f111 "_law_where" 111)(l112:HD K f112 "_law_dense" 112)(l113:HD K f113 "_law_hops" 113)(l114:HD K f114 "_law_some_code" 114)(l115:HD K f115 "_law_long_code" 115)(l116:HD K f116 "_law_digits" 116)(l117:HD K f117 "_law_number" 117)(l118:HD K f118 "_law_ops" 118)(l119:HD K f119 "_law_begins" 119)(l120:HD K f120 "law" 120)(a100:PySem.W.nsIn K mainGlobals "_law_put"=some (some<|.ref f100))(l100:K.lookup f100=some ⟨oc100,od100,.func<|PySem.W.fnOf "_law_put" "_law_put" (qF<|top 100) (zR<|top 100) (zc<|top 100) (.ref T100) kV100 dc100 pm100 an100 cd100 ct100,sl100⟩)(c100:PySem.W.codeIn K cd100 "_law_put"=true)(k100:PySem.W.keepIn K (.ref f100)=true)(t100:K.lookup T100=some to100)(s100:to100.data=.seq #[Value.none] n100)(aCU:PySem.W.nsIn K mainGlobals "Units"=some (some<|.ref CU))(pgCU:PySem.W.plainGet K CU Str.empty=true)(hdCU:PySem.W.hasDictIn K CU=true)(poCU:PySem.W.plainOver K CU=true)(saCU:PySem.W.findIn K (.ref CU) "__setattr__"=some (some<|.builtin "object.__setattr__"))(mkCU:PySem.W.makesIn K CU=true)(kcCU:PySem.W.keepIn K (.ref CU)=true)(nCUpushed:PySem.W.findIn K (.ref CU) "pushed"=some none)(nCUnamed:PySem.W.findIn K (.ref CU) "named"=some none)(nCUpieces:PySem.W.findIn K (.ref CU) "pieces"=some none)(nCUstretches:PySem.W.findIn K (.ref CU) "stretches"=some none)(nCUlined:PySem.W.findIn K (.ref CU) "lined"=some none)(aU0:PySem.W.findIn K (.ref CU) "__init__"=some (some<|.ref fU0))(iU0:PySem.W.isFn K (.ref fU0)=true)(lU0:LK K fU0 "__init__" "Units.__init__" (mU 0))(mm1:MD K CU "consts" "Units.consts" (mU 1))(mm2:MD K CU "names" "Units.names" (mU 2))(mm3:MD K CU "units" "Units.units" (mU 3))(z_isinstance:PySem.W.nsIn K mainGlobals "isinstance"=some none)(z_int:PySem.W.nsIn K mainGlobals "int"=some none)(z_bool:PySem.W.nsIn K mainGlobals "bool"=some none)(z_str:PySem.W.nsIn K mainGlobals "str"=some none)(z_tuple:PySem.W.nsIn K mainGlobals "tuple"=some none)(z_list:PySem.W.nsIn K mainGlobals "list"=some none)(z_len:PySem.W.nsIn K mainGlobals "len"=some none)(z_range:PySem.W.nsIn K mainGlobals "range"=some none)(z_enumerate:PySem.W.nsIn K mainGlobals "enumerate"=some none)(z_all:PySem.W.nsIn K mainGlobals "all"=some none)(z_max:PySem.W.nsIn K mainGlobals "max"=some none)(z_min:PySem.W.nsIn K mainGlobals "min"=some none)(z_sum:PySem.W.nsIn K mainGlobals "sum"=some none)(z_zip:PySem.W.nsIn K mainGlobals "zip"=some none)(q_rows:CN K "MOST_ROWS" 150)(q_line:CN K "MOST_LINE" 9999)(q_mark:CN K "MOST_MARK" 99)(q_pushed:CN K "MOST_PUSHED" 1000000000)(q_name:CN K "LONGEST_NAME" 4)(q_kind:CN K "LONGEST_KIND" 8)(q_depth:CN K "MOST_DEPTH" 999)(q_many:CN K "MOST_MANY" 9999)(q_base:CN K "BASE" 16)(q_more:CN K "MORE" 0)(ta_sorts:KT K w "ARG_SORTS" z4a)(ta_tests:KT K w "ARG_TESTS" [("value",.ref f20),("name",.ref f16),("copied",.ref f21),("swapped",.ref f22),("mark",.ref f18),("none",.ref f23)])(ta_takes:KT K w "TAKES" (z1b jo))(ta_pushes:KT K w "PUSHES" (z1b j8))(ta_gput:KT K w "GUARDS_PUT" (z1b qp))(ua_jumping:KU K "JUMPING" (jumping.map V.str))(ua_leaving:KU K "LEAVING" (leaving.map V.str))(ua_never:KU K "NEVER_ON" (jc.map V.str))(ua_faulting:KU K "FAULTING" (faulting.map V.str))(ua_first:PySem.W.nsIn K mainGlobals "FIRST_STATE"=some (some<|.ref tfirst))(ul_first:K.lookup tfirst=some ofirst)(uc_first:ofirst.cls=.type "tuple")(ud_first:ofirst.data=.seq ifirst nfirst)(uv_first:Vals [.int 0,.ref gfirst] ifirst.toList)(ul_gfirst:K.lookup gfirst=some ogfirst)(uc_gfirst:ogfirst.cls=.type "tuple")(ud_gfirst:ogfirst.data=.seq igfirst ngfirst)(uv_gfirst:Vals [] igfirst.toList)(uaO:PySem.W.nsIn K mainGlobals "OPS"=some (some<|.ref tO))(ulO:K.lookup tO=some oO)(ucO:oO.cls=.type "tuple")(uoO:oO.dict=none)(udO:oO.data=.seq iO nO)(uvO:Vals (opsU.map V.str) iO.toList)
  :∃fd:FuncData,(∀(s:Ac)(v:Ab),BindsTo s fd ⟨[v],[]⟩ [("_law_script",v)])/\∀base:Heap,K.In base->base.Ns mainGlobals mg->FnOk l.prog w K mg base CX0 19 fa fd ["_law_script"] (z5T K):=by
 have e:=hfa.symm.trans (kn X G l120.1);cases e;have D {f:Aa} {x:Str} {n:Nat} (l:HD K f x n):zn K mg x (top n):=zbH X G l;have DP:z5N K mg "_law_put" (top 100):=⟨f100,T100,oc100,kV100,dc100,pm100,cd100,ct100,od100,an100,sl100,to100,n100,kn X G a100,k100,l100,c100,t100,s100⟩
 have GG:Glo mg:=⟨vm X G z_isinstance,vm X G z_int,vm X G z_bool,vm X G z_str,vm X G z_tuple,vm X G z_list,vm X G z_len,vm X G z_range,vm X G z_enumerate,Jv X G q_rows,Jv X G q_line,Jv X G q_mark,Jv X G q_pushed,Jv X G q_name,Jv X G q_kind,vm X G z_all,vm X G z_max,vm X G z_min⟩
 have GU:GloU mg:=⟨vm X G z_sum,vm X G z_zip,Jv X G q_depth,Jv X G q_many,Jv X G q_base,Jv X G q_more⟩
 have OP:z5M K mg:=⟨tO,oO,kn X G uaO,ulO,ucO,uoO,z6A ulO ucO udO uvO<|by decide⟩
 obtain⟨dtests,mtests,ktests⟩:=ktg X G ta_tests;have TT:Tabs w K mg:=⟨ktg X G ta_sorts,⟨dtests,f20,f16,f21,f22,f18,f23,mtests,ktests,kn X G l20.1,kn X G l16.1,kn X G l21.1,kn X G l22.1,kn X G l18.1,kn X G l23.1⟩⟩
 have T2:z7h w K mg:=⟨ktg X G ta_takes,ktg X G ta_pushes,ktg X G ta_gput,kug X G ua_jumping,kug X G ua_leaving,kug X G ua_never,kug X G ua_faulting,⟨tfirst,gfirst,kn X G ua_first,z6A ul_first uc_first ud_first uv_first (by show 2<=1000;decide),z6A ul_gfirst uc_gfirst ud_gfirst uv_gfirst<|by decide⟩⟩
 have hmU:=kn X G aCU;have UC:UnC K CU:=⟨⟨pgCU,hdCU,poCU,saCU⟩,nCUpushed,nCUnamed,nCUpieces,nCUstretches,nCUlined⟩
 obtain⟨_,_,_,an,_,kV,dc,pm,cd,ct,lk,c,k⟩:=l120;refine⟨PySem.W.fnOf "law" "law" (qF<|top 120) (zR<|top 120) (zc<|top 120) .none kV dc pm an cd ct,fun s v=>.of_eq rfl,fun base _ _=>?_⟩;have nF {x:Str} {ps:List Str} {sp:Sp} {k:Nat} (F:FN l.prog w K mg base k x ps sp):=F;have nM {C:Aa} {x:Str} {ps:List Str} {sp:Sp} {k:Nat} (F:MN l.prog w K mg base k C x ps sp):=F;have num:=nF (z1j (D l13) GG);have zW:=z58 (D l14) GG num;have jt:=nF (z3E (D l15) GG);have name:=z8N (D l16) GG jt;have kind:=z8V (D l17) GG jt;have mark:=z8O (D l18) GG zW;have value:=z6R (D l19) GG zW kind;have pushed:=z5a (D l20) GG value;have copied:=z5f (D l21) zW;have swapped:=z3D (D l22) zW;have none:=nF (z8L<|D l23);have op:=nF (zbQ (D l25) GG TT);have sort:=nF (z8F (D l26) TT);have fits:=z8Z (D l27) TT sort pushed name copied swapped mark none;have row:=zaJ (D l28) GG op fits zW;have labs:=z8U (D l29) GG row;have labs2:=z73 (D l29) GG row;have mfits:=z1i (D l30) sort;have bad:=zaW (D l31) GG row labs mfits;have has:=nF (zaQ (D l32) GG);have check:=z77 (D l33) has bad;have up:=up2 (nF<|zbM<|D l45);have asked:=nF (z78 (D l46) T2);have lackV:=z71 (D l47) asked;have Jf:=nF (z72<|D l48);have jv:=z3G (D l49) GG asked;have moves:=z6Z (D l50) T2 lackV Jf;have words:=z6P (D l51) GG lackV Jf jv moves;have gb:=nF (zbV<|D l52);have next:=z8M (D l53) up moves gb;have sw:=zbO (D l54) up words;have searched:=z23 (D l55) GG T2 labs sw next;have states:=z59 (D l56) check searched;have digits:=nF (z5e<|D l35);have tupOf:=nF (z6T (D l60) GG);have gent:=z8Y (D l61) GG GU tupOf zW;have gtab:=z8X (D l62) GG gent;have lent:=z8S (D l63) GG GU tupOf zW;have ltab:=z8P (D l64) GG lent;have isU:=zaP (D l71) GG GU OP tupOf zW;have arec:=z5g (D l72) GG pushed;have aren:=z6Y (D l73) GG name;have areu:=z6S (D l74) GG isU;have arel:=z70 (D l75) GG GU ltab;have parts:=z6X (D l76) GG arec aren areu gtab arel;have init:=z6E (zbG mkCU aU0 iU0 lU0 kcCU) UC parts;have mC:=nM (z4M (z8z mm1) UC);have mN:=nM (z6t (z8z mm2) UC);have mV:=nM (z6s (z8z mm3) UC);have vkey:=nF (z8D (D l79) GG);have numN:=nF (z8J (D l80) GG);have numC:=nF (z8K (D l80) GG);have args:=z92 (D l81) sort;have mu:=nF (zbR (D l82) OP.of);have nfor:=z5b (D l83) sort vkey;have fst:=nF (zaS<|D l84);have szd:=nF (z6V (D l85) GG);have digBy:=z74 (D l86) GU fst labs2 mu digits nfor;have few:=zaT (D l87) GG digBy szd;have rowU:=z8H (D l88) GU OP mu;have lgN:=nF (z5c (D l89) GG);have lgG:=nF (z5d (D l89) GG);have gbr:=zaR (D l90) states up;have byU:=nF (zaU (D l91) GG GU);have gt:=zbU (D l92) GG labs fst byU lgG;have lt:=zbT (D l93) GG byU lgN;have asm:=zaX (D l94) GG GU hmU gbr args vkey numC numN few szd rowU gt lt init;have town:=nF (z8E (D l96) GG);have draw:=nF (z90 (D l97) GG);have pick:=z8I (D l98) GG draw;have const:=z76 (D l99) pick;have put:=zaK (P:=l.prog) (w:=w) (base:=base) DP GG;have mk:=nF (zbS (D l101) GG);have S:jH l.prog w K mg base:=⟨draw,pick,const,put.1,put.2,mk⟩
 have VV:=z1h (D l102) (D l103) (D l104) GG S 3;have DD:=z2S (D l105) (D l106) (D l107) (D l108) S VV 3;have lcode:=z3F (D l109) GG S VV DD;have mv:=zaN (n:=3) (D l104) GG S VV;have hops:=z8W (D l113) GG S;have dense:=z75 (D l112) GG S VV mv DD hops;have some:=z8G (D l114) S dense lcode;have long:=z8Q (D l115) GG S lcode;have shown:=nF (zbP<|D l110);have whe:=nF (z6Q (D l111) GG);have ldig:=nF (z8T<|D l116);have lnum:=z8R (D l117) shown;have ops:=nF (zaL<|D l118);have beg:=nF (zaV<|D l119);exact zaO (z2M (st:=top 120) lk c k) GG UC town pick some long asm shown mC mN mV whe beg ldig lnum ops
def z9G{K:ku}{H:Hp}{a:Aa}{xs:List V}(hO:Only H)(h:SqL K H a xs):Scr K H a xs:=by
 rcases h with h|h
 ·rcases h with h|⟨o,h⟩
  ·rcases hO a with z|⟨o,ys,z⟩
   ·rw[z] at h;cases h
   ·rw[z] at h;cases h
  ·exact .inl ⟨o,h⟩
 ·exact .inr h
def walk{l:PySem.W.OpenLaw}{q:Program}{loose:List Str}{XP:(Str->Option Ab)->Heap->Prop}{YP:World->Heap->Prop}{d:DefRec}{K:Params->ku}(hn:l.most=some 63)(hdf:d.params.defaults=[])(hY:∀(w:World)(h:Heap),YP w h->(K w.params).In h)(F:∀(w:World)(mg:Str->Option Ab)(fa:Aa)(h:Heap),(K w.params).In h->h.Ns mainGlobals mg->mg d.name=some (.ref fa)->
   ∃fd:FuncData,(∀(s:Ac)(u:Ab),BindsTo s fd ⟨[u],[]⟩ [("_law_script",u)])/\∀base:Heap,(K w.params).In base->base.Ns mainGlobals mg->FnOk l.prog w (K w.params) mg base CX0 19 fa fd ["_law_script"] (z5T<|K w.params)):
  PySem.W.WalkO q loose XP YP l.row.toRowW d [] (fun f vs=>PySem.call f vs):=
 L2.z7K (n:=63) (k:=19) (x:="_law_script") (CX:=fun _=>CX0) (sp:=fun w=>z5T<|K w.params) hn (by decide) hdf ⟨rfl,by decide,by decide,rfl⟩ hY F (fun _ _ a ns hl hO hS=>⟨a,ns,rfl,z9G hO hS,hl,fun _=>rfl⟩) fun _ _ _ _ _ z=>z
end My
end
structure PySem.W.Fast where(tw316514102143019080 tw1176975735165151067 tw13698048360955963301 tw3528903376305711396 tw14380344462400189873 tw14442895186254868694 tw16479022912942432158 tw17643754061406199020 tw10667965978278278033 tw9601000219436670146 tw15886500619415505586 tw1099786997935966427 tw10209164474934016114 tw9774394379856643515 tw9248428950689249428 tw5891177449180782854 tw7325775436706602348 tw4359589691058243886 tw586414817643026165 tw17704188385166749297 tw3092117133297227249 tw3470010718395615242 tw15348117752812372481 tw17624731456758155189 tw16231819489803491086 tw2947586027576077979 tw16747831007585710341 tw4157206338815638501 tw11630328935867623959 tw1349388230604553621 tw6822529714786804032 tw16472409268878238316 tw8573034625154125844 tw8164005668110941744 tw4961949625528378942 tw4770949888891906500 tw1462193419119380569 tw5958337225494893492 tw14501001857826371202 tw4026151001005817321 tw7328447075739424539 tw9435018134839604537 tw12549480798472879603 tw8933567498414919238 tw2313525858638419661 tw2563342435080024164 tw17849293660312457548 tw15183569692876789785 tw140247042037892190 tw12027893231959348502 tw12996339429388188178 tw2283480497557504744 tw69414778264802052 tw7175924686734873740 tw7537285074954141530 tw6285040191614719466 tw16950569574821323974 tw4843473975253519250 tw3307598998989760257 tw5388663596951873645 tw12673549619886724666 tw15943592676296772274 tw2536771547969941856 tw18269924539489903889 tw10635065575864489283 tw12068798485007620914 tw143287661451841328 tw17287205074728517176 tw8934421753687110507 tw15655605073228999271 tw3094701115853657799 tw13197444509695450237 tw4179031660912777645 tw9597476570122768466 tw3857615796733700780 tw14326666937008165477 tw17969941481158815411 tw15213048550514571353 tw7523960725538707817 tw2451202640524662777 tw17427895641331663283 tw4033379813872489195 tw13986866181449326283 tw8181798732573668865 tw16149030986926176842 tw1820406046763328738 tw8436589768386056944 tw3103751414666246812 tw13319170342346483122 tw10097012582147076362 tw9192171586001469603 tw14846608996346228861 tw2766794811542550618 tw17004574920194074796 tw7825248364748044718 tw17845374550828520631 tw11392713097197983755 tw16268753175028127129 tw8454840944936950519 tw18221076124747093969 tw10752687858943698738 tw13432873828021710899 tw16629561534657121264 tw14864845329073380503 tw7586693836618795562 tw14395535763308203431 tw10746989603658154836 tw7394473655412076685 tw11905978938385298303 tw12976177241038019767 tw10762484250532422250 tw13231743877010270464 tw14374603453287560736 tw15069716523494295500 tw14790834132378566595 tw5089109622011424599 tw5047655472420816975 tw10845176269288740530 tw11764051201032110199 tw17546005709695080877 tw2294854397974045510 tw12221415409051222339 tw13260146092877858203 tw264859973967348148 tw6664951462986138201 tw15314323031021625729 tw6638926791290424541 tw15679247252792206210 tw10738022691011693995 tw15632388027458123374 tw5613845454599061817 tw14827384380277173613 tw9897558803702562313 tw12978678129208030876 tw8008005557923197168 tw9508736203920968164 tw18363613149180712908 tw10543178825980762907 tw7900839787485558254 tw11990459337992974956 tw899467453790264098 tw8085317222854131807 tw4952506757814975653 tw17548501875881557423 tw49257221699923509 tw10780761586765376359 tw11732214188671553305 tw11002848052431835627 tw13989995598129119793 tw425938344300624212 tw6731276024794131016 tw15726315211890062517 tw10015853644003576960 tw931956834028986255 tw6915832580712411411 tw9484893572878908112 tw8864380892348041232 tw1322031339247656150 tw12434779806091606683 tw12497209384629237934 tw13673065589402620214 tw14858129598448742980 tw14495299557687959983 tw5107255825281412738 tw9308127886482624579 tw5485572742587201778 tw13481268755573549168 tw17093224777342109595 tw8237626310708396552 tw4982327473614321822 tw9218752888244210615 tw17545862747986772839 tw6390373612929051886 tw15568136977402293060 tw15718574390098580149 tw2385268686561707046 tw2927799364441409784 tw11717690317537128808 tw17513604867990543079 tw8445716188487379795 tw8605165415444627158 tw13553050674002434610 tw8126552424372712672 tw14788362278542820120 tw12255459037194382473 tw10069975712529536831 tw3373145609055282853 tw14722794537435163219 tw18431155831084640082 tw7942853410682446962 tw11118301316682269745 tw11188117447681078326 tw9466130334346563993 tw17398146341500462573 tw1877378965866140348 tw12694589447371642155 tw17882641709403210578 tw4153491320931672185 tw11165118516710488114 tw2857234818492195956 tw17401831432661337422 tw4916127144345927284 tw1647960591809683682 tw2791417458454038152 tw14267268813261638861 tw5835942142707902020 tw4185518321428705831 tw3345597093286824917 tw5680315236850328200 tw11786325122171474085 tw15325311475551686242 tw15223397061033166810 tw7089793799200125183 tw8159976661246289121 tw7340446101256811000 tw14734032772098568817 tw12815670308626618822 tw8553059368797141306 tw2053429180447462835 tw14552297945886922796 tw2962324470309885386 tw2747774915501398362 tw4693335582198445222 tw7020395562169822392 tw13774056567397157767 tw6905212232875527693 tw18012574323051992567 tw7524379617451308511 tw12392129776423771058 tw6880125886219600808 tw7420531298404749032 tw4968929673044707356 tw1391549112126926301 tw12712400820596877648 tw10846345724684618374 tw3934833063311361131 tw10896712999787139778 tw6771182271545134960 tw5315833730557488597 tw8891557043749499067 tw6999419289813526679 tw644751248652905101 tw13508602156133886167 tw897888412878121761 tw14279065940840616024 tw10131873952172028942 tw18329075359065952542 tw7950223703418521501 tw16463793508043411602 tw8131721106225051767 tw5847202018973711932 tw4773397407553703792 tw3471986238504059686 tw4799189423077775474 tw17456480263006714056 tw14763428746477059428 tw5363195699714531557 tw1567247161763788871 tw18182889222666715495 tw5845538515087863352 tw438459731153329746 tw8060744490709563079 tw11224361182253327997 tw12111957463147405440 tw947381103137216020 tw4188684199736651882 tw15739735347585871426 tw704147369595269066 tw9161490523856799436 tw6760056911573607715 tw6089177832033215386 tw3133745999044795564 tw9751423446361702133 tw1061639710858884176 tw17570062618377817894 tw670427922429333600 tw18443007809517869832 tw7395645310213146516 tw3302770140995672700 tw10661956449011590994 tw6205024481829086969 tw16884622931589843948 tw5015507407206683207 tw4034687210265294523 tw11586196018267737339 tw10728712052571211117 tw4842887358765978389 tw14398365135244066966 tw6606014719576569030 tw8249347019533418915 tw14112606434462084385 tw3376878396373082146 tw14593252181223967585 tw3903891618737965568 tw133755455108545178 tw12514039047250868702 tw5609530884314319229 tw12694112234171929671 tw7717702957765121957 tw13350131943787299761 tw1354003750591732747 tw3822784309164373692 tw8175973581910071180 tw16583173353076678106 tw16717272659965454103 tw14245618210516037357 tw6784790241324674965 tw4636031889025220839 tw12737541344736672974 tw16607927582987124570 tw13949155002146243131 tw4589182232624314844 tw16970792351503237766 tw14949513074056673275 tw13708279966662545973 tw16372584530490662585 tw1620389302784492585 tw17960848765466677729 tw1096354831752916523 tw7910172739516966087 tw9835382159548102362 tw19751972998642308 tw5713610079918043996 tw1833547357909804662 tw16900135722406889126 tw3942624392001961204 tw11526203479690249398 tw11843833423457600547:Nat)
open PySem PySem.W PyProof.Rows
set_option maxRecDepth 100000
set_option maxHeartbeats 0
open_top head for PySem.Challenge.rw_codemill_k71_whole_least_units
theorem PySem.Challenge.cw_codemill_k71_whole_least_units_holds : PySem.Challenge.rw_codemill_k71_whole_least_units.Holds :=
 head (by
 k_fill
 refine My.walk (l:=PySem.Challenge.rw_codemill_k71_whole_least_units) rfl rfl (fun w h Y=>PySem.W.kIn_of Y) ?F
 case F=>
  intro w mg fa h KX G hmg
  refine' My.all_mk KX G hmg ..
  any_goals exact My.hdm (by k_is) (by k_is) (by k_is) (by k_is)
  any_goals exact My.cnm (by k_is) (by first | exact rfl | exact⟨_,rfl⟩)
  any_goals exact My.ktm (by k_is) (by k_is) (by k_keys) (by first | exact rfl | decide) (by repeat (first | exact .nil | refine .cons ⟨⟨_,rfl⟩,(by first | exact rfl | exact⟨_,rfl⟩)⟩ ?_))
  any_goals exact My.kum (by k_is) (by k_is) rfl rfl (by repeat (first | exact .nil | refine .cons (by first | exact rfl | exact⟨_,rfl⟩) ?_)) (by decide)
  any_goals k_is
  any_goals exact My.mdm (by k_is) (by k_is) (My.lk_mk (by k_is) (by k_is)<|by k_is)
  any_goals exact My.lk_mk (by k_is) (by k_is) (by k_is)
  any_goals first | exact rfl | exact⟨_,rfl⟩ | k_keys | decide
  any_goals (repeat (first | exact .nil | refine .cons (by first | exact rfl | exact⟨_,rfl⟩) ?_))
  any_goals k_is
  any_goals exact rfl)
